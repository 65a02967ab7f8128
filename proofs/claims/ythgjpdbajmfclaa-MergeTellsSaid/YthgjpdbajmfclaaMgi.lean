/-
  The document's Set: the numbers of a list, rising, each once; conditions: lengths.
-/
import Derived.Test.YthgjpdbajmfclaaMgh
import Derived.Test.YthgjpdbajmfclaaAnyT
import Derived.BigRegion
namespace Go.Proofs.Ythgjpdbajmfclaa
open Go.RowKit Go.WideShapes Go.ChangeShapes
set_option linter.all false
theorem insI_hit : ∀ (O : List Int) (x : Int), SortedI O → x ∈ O → insI O x = O
  | [], x, _, h => by cases h
  | y :: r, x, hs, h => by
    unfold SortedI at hs
    rw [List.pairwise_cons] at hs
    unfold insI
    rcases List.mem_cons.1 h with rfl | h
    · rw [if_neg (by omega), if_pos rfl]
    · rw [if_pos (hs.1 x h), insI_hit r x hs.2 h]
theorem insI_at : ∀ (O : List Int) (x : Int) (i : Nat), i ≤ O.length → (∀ y ∈ O.take i, y < x) → (i < O.length → ¬ O.getD i 0 < x) → ¬ x ∈ O → insI O x = O.take i ++ x :: O.drop i
  | [], x, i, hi, _, _, _ => by
    have : i = 0 := by simpa using hi
    subst this; rfl
  | y :: r, x, 0, _, _, h2, h3 => by
    have h4 := h2 (by simp)
    simp at h4
    have h5 : y ≠ x := by rintro rfl; exact h3 (by simp)
    unfold insI
    rw [if_neg (by omega), if_neg h5]; rfl
  | y :: r, x, i + 1, hi, h1, h2, h3 => by
    have h4 : y < x := h1 y (by simp)
    unfold insI
    rw [if_pos h4, insI_at r x i (by simpa using hi) (fun z hz => h1 z (by simp [hz])) (fun h => by have := h2 (by simpa using h); simpa using this) (fun h => h3 (by simp [h]))]
    rfl
theorem foldI_snoc (l ws : List Int) (x : Int) : foldI l (ws ++ [x]) = insI (foldI l ws) x := by simp [foldI]
theorem takeI_snoc {l : List Int} {k : Nat} (h : k < l.length) : l.take (k + 1) = l.take k ++ [l.getD k 0] := by
  rw [List.take_succ_eq_append_getElem h, List.getD_eq_getElem?_getD, List.getElem?_eq_getElem h]; rfl
theorem Reads.take_s {w : World} {B n k : Nat} {A : Option Addr} {X : List Int} (h : Reads w B 1 A n (ks .i64 X)) (hk : k ≤ n) : Reads w B 1 A k (ks .i64 (X.take k)) := by
  have hl := h.kl
  refine ⟨by rw [ks_len, List.length_take]; omega, fun hk0 => ?_⟩
  obtain ⟨ad, e, hb, hc⟩ := h.2 (by omega)
  refine ⟨ad, e, hb, fun j u hu => hc j u ?_⟩
  unfold ks at hu ⊢
  rw [List.getElem?_map, List.getElem?_take] at hu
  split at hu
  · rw [List.getElem?_map]; exact hu
  · cases hu
theorem Reads.drop_s {w : World} {B n k c : Nat} {A : Option Addr} {X : List Int} (h : Reads w B 1 A n (ks .i64 X)) (hk : k ≤ n) (hc : n ≤ c) : Reads w B 1 (if c = k then A else A.map (·.add k)) (n - k) (ks .i64 (X.drop k)) := by
  have := h.cut (k := k) (cap := c) hk hc
  rw [Nat.mul_one] at this
  unfold ks at this ⊢
  rwa [← List.map_drop] at this
theorem ins_mid {O : List Int} {x : Int} {w' : World} {N N' k n : Nat} {v : Value} (hn : n = O.length) (hk : k ≤ n) (h : Mid w' N 3 1 v (0 + k + 1 + (n - k)) ([] ++ ks .i64 (O.take k) ++ [.int .i64 x] ++ ks .i64 (O.drop k))) (hN : N' ≤ N) (hi : insI O x = O.take k ++ x :: O.drop k) :
    ∃ A c, v = .slice A (n + 1) c ∧ Mid w' N' 3 1 (.slice A (n + 1) c) (n + 1) (ks .i64 (insI O x)) := by
  obtain ⟨A, c, rfl⟩ := h.form
  have e1 : 0 + k + 1 + (n - k) = n + 1 := by omega
  have e2 : [] ++ ks .i64 (O.take k) ++ [Value.int .i64 x] ++ ks .i64 (O.drop k) = ks .i64 (insI O x) := by rw [hi]; unfold ks; simp
  rw [e2] at h
  rw [e1] at h ⊢
  exact ⟨A, c, rfl, h.lower hN⟩
/-- What the loop holds behind k numbers. -/
structure SW (l : List Int) (w wr : World) (k m c : Nat) (A : Option Addr) (O : List Int) : Prop where
  row : Mid wr w.heap.size 3 1 (.slice A m c) m (ks .i64 O)
  eq : O = foldI [] (l.take k)
  below : Below w.heap.size w wr
set_option maxRecDepth 100000 in
set_option maxHeartbeats 6400000 in
theorem set_any (A : Option Addr) (n c : Nat) (l : List Int) (w : World) (h : SI w w.heap.size A n c l) (hn : n ≤ 2000) :
    Calls Try.prog 16 #[.slice A n c] w (LM (foldI [] l) w) := by
  obtain ⟨i0, hi0, hz0, hz1, hz2⟩ := info_parts infoI
  have HS := Lib.hid h
  have HLN := Lib.hid h.len
  clear h
  go_enter Try.func16, Try.ntmps16
  go_wp2
  go_loopw [3, 9] (fun o i wr => ∃ (k m cq : Nat) (Aq : Option Addr) (O : List Int), o = .slice Aq m cq ∧ i = .int .i64 k ∧ k ≤ n ∧ m ≤ k ∧ Hid (SW l w wr k m cq Aq O)) (fun _ i _ => n - (intOf i).toNat)
  case atStart => exact ⟨0, 0, 0, none, [], rfl, rfl, Nat.zero_le _, Nat.le_refl _, Lib.hid ⟨Mid.nil _ _ _ _, rfl, Below.refl _ _⟩⟩
  case round =>
    obtain ⟨k, m, cc, Aq, O, rfl, rfl, hk, hm, HW⟩ := hrel
    by_cases hlt : k < n
    · have hkl : k < l.length := by rw [HLN.out]; exact hlt
      obtain ⟨ad0, rfl, h1⟩ := (HS.out.below HW.out.below).2.2.2.kat hlt
      have HNX : Hid (foldI [] (l.take (k + 1)) = insI O (l.getD k 0)) := Lib.hid (by rw [takeI_snoc hkl, foldI_snoc, ← HW.out.eq])
      have HSO : Hid (SortedI O) := Lib.hid (by rw [HW.out.eq]; exact foldI_sorted _ _ List.Pairwise.nil)
      obtain ⟨x, hx⟩ : ∃ x, x = l.getD k 0 := ⟨_, rfl⟩
      rw [← hx] at h1 HNX
      clear hx hkl
      have HSI := Lib.hid HW.out.row.si
      have HL : Hid (m = O.length) := Lib.hid HSI.out.len.symm
      have hB : w.heap.size ≤ wr.heap.size := HW.out.below.size
      by_cases hmem : x ∈ O
      · have HHIT : Hid (SW l w wr (k + 1) m cc Aq O) := Lib.hid ⟨HW.out.row, by rw [HNX.out, insI_hit O x HSO.out hmem], HW.out.below⟩
        have hdec : decide (x ∈ O) = true := decide_eq_true hmem
        have HDEC := Lib.hid hdec
        clear hdec hmem
        go_wp2_with (first
          | (go_at_call 14; refine (has_any _ _ _ _ O x _ HSI.out).mono ?_
             rintro e w' ⟨rfl, hw'⟩
             rw [hw', HDEC.out]
             clear hw')
          | fail)
        go_roundw
        case rel => exact ⟨k + 1, m, cc, Aq, O, rfl, by go_num, by omega, by omega, HHIT⟩
        case measure => simp only [intOf]; omega
      · have hdec : decide (x ∈ O) = false := decide_eq_false hmem
        have HDEC := Lib.hid hdec
        have HNM := Lib.hid hmem
        clear hdec hmem
        have hc := HSI.out.1
        have HNC := Lib.hid (HW.out.row.nocap)
        have HR : Hid (Reads wr wr.heap.size 1 Aq m (ks .i64 O)) := Lib.hid HSI.out.2.2.2
        go_wp2_with (first
          | (go_at_call 14; refine (has_any _ _ _ _ O x _ HSI.out).mono ?_
             rintro e w' ⟨rfl, hw'⟩
             rw [hw', HDEC.out]
             clear hw')
          | fail)
        go_loop [6] (fun j => ∃ i : Nat, i ≤ m ∧ j = .int .i64 i ∧ Hid (∀ y ∈ O.take i, y < x)) (fun j => m - (intOf j).toNat)
        case atStart => exact ⟨0, by omega, rfl, Lib.hid (by simp)⟩
        case round =>
          obtain ⟨i, hi, rfl, HI⟩ := hrel
          by_cases hlti : i < m
          · obtain ⟨ad, rfl, h2⟩ := HR.out.kat hlti
            have hlL : i < O.length := by rw [← HL.out]; exact hlti
            obtain ⟨y, hy⟩ : ∃ y, y = O.getD i 0 := ⟨_, rfl⟩
            rw [← hy] at h2
            by_cases hyx : y < x
            · have HN : Hid (∀ y ∈ O.take (i + 1), y < x) := Lib.hid (by
                rw [takeI_snoc hlL, ← hy]
                intro z hz
                rw [List.mem_append, List.mem_singleton] at hz
                rcases hz with hz | rfl
                · exact HI.out z hz
                · exact hyx)
              clear hy hlL
              go_wp2
              go_round
              case rel => exact ⟨i + 1, by omega, by go_num, HN⟩
              case measure => simp only [intOf]; omega
            · have HE : Hid (insI O x = O.take i ++ x :: O.drop i) := Lib.hid (insI_at O x i (Nat.le_of_lt hlL) HI.out (fun _ => by rw [← hy]; exact hyx) HNM.out)
              clear hy hlL
              go_wp2
              have hci : ¬ (cc = i) := by omega
              have g1 : (i : Int) ≤ m := by omega
              have g2 : (i : Int) ≤ cc := by omega
              have g3 : (0 : Int) ≤ i := by omega
              have g4 : (m : Int) ≤ cc := by omega
              have HA : Hid (∀ w', Below wr.heap.size wr w' → Reads w' wr.heap.size 1 (some ad) (i) (ks .i64 (O.take (i)))) := Lib.hid (fun w' hb => ((HR.out.below hb).take_s (k := i) (by omega)))
              have HBk : Hid (∀ w', Below wr.heap.size wr w' → Reads w' wr.heap.size 1 (some (ad.add i)) (m - i) (ks .i64 (O.drop (i)))) := Lib.hid (fun w' hb => by have := (HR.out.below hb).drop_s (k := i) (c := cc) (by omega) (by omega); rw [if_neg hci] at this; exact this)
              refine wp_region_T (fun _ => True) 12 (by kernel_rfl) ?_
              have hS : True := trivial
              refine wpAnyT_take (i := 1) (oi := _) (v := ?_) (by rfl) (by kernel_rfl) (by intro _ _ _ h; exact h) hS (Or.inl ⟨by rfl, ?_⟩) ?_
              rotate_left 1
              · intro w' hS'
                go_simp
                all_goals with_reducible rfl
              simp only [Act.put, List.setIfInBounds_toArray, List.set_cons_zero, List.set_cons_succ]
              refine wpAnyT_take (i := 2) (oi := _) (v := ?_) (by rfl) (by kernel_rfl) (by intro _ _ _ h; exact h) hS (Or.inl ⟨by rfl, ?_⟩) ?_
              rotate_left 1
              · intro w' hS'
                go_simp
                all_goals with_reducible rfl
              simp only [Act.put, List.setIfInBounds_toArray, List.set_cons_zero, List.set_cons_succ]
              refine wpAnyT_take (i := 3) (oi := _) (v := ?_) (by rfl) (by kernel_rfl) (by intro _ _ _ h; exact h) hS (Or.inl ⟨by rfl, ?_⟩) ?_
              rotate_left 1
              · intro w' hS'
                go_simp
                all_goals with_reducible rfl
              simp only [Act.put, List.setIfInBounds_toArray, List.set_cons_zero, List.set_cons_succ]
              refine wpAnyT_take (i := 5) (oi := _) (v := ?_) (by rfl) (by kernel_rfl) (by intro _ _ _ h; exact h) hS (Or.inl ⟨by rfl, ?_⟩) ?_
              rotate_left 1
              · intro w' hS'
                go_simp
                all_goals with_reducible rfl
              simp only [Act.put, List.setIfInBounds_toArray, List.set_cons_zero, List.set_cons_succ]
              refine wpAnyT_take (i := 8) (oi := _) (v := ?_) (by rfl) (by kernel_rfl) (by intro _ _ _ h; exact h) hS (Or.inl ⟨by rfl, ?_⟩) ?_
              rotate_left 1
              · intro w' hS'
                go_simp
                all_goals with_reducible rfl
              simp only [Act.put, List.setIfInBounds_toArray, List.set_cons_zero, List.set_cons_succ]
              refine wpAnyT_take (i := 9) (oi := _) (v := ?_) (by rfl) (by kernel_rfl) (by intro _ _ _ h; exact h) hS (Or.inl ⟨by rfl, ?_⟩) ?_
              rotate_left 1
              · intro w' hS'
                go_simp
                all_goals with_reducible rfl
              simp only [Act.put, List.setIfInBounds_toArray, List.set_cons_zero, List.set_cons_succ]
              refine wpAnyT_take (i := 10) (oi := _) (v := ?_) (by rfl) (by kernel_rfl) (by intro _ _ _ h; exact h) hS (Or.inl ⟨by rfl, ?_⟩) ?_
              rotate_left 1
              · intro w' hS'
                go_simp
                all_goals with_reducible rfl
              simp only [Act.put, List.setIfInBounds_toArray, List.set_cons_zero, List.set_cons_succ]
              have b0 : Below wr.heap.size wr wr.drew := (Below.refl _ _).drew
              refine wpAnyT_all (rs := [0, 6]) (by kernel_rfl) (by simp) ?_
              intro ix hix
              simp only [List.mem_cons, List.not_mem_nil, or_false] at hix
              rcases hix with rfl | rfl
              · refine wpT_op (o := _) (by rfl) (fun K hK => ?_)
                go_simp
                have b1 := b0.alloc b0.size (.cells #[] 3)
                have m2 : Mid (wr.drew.alloc (.cells #[] 3)) wr.heap.size 3 1 (.slice (some ⟨wr.heap.size, 0, none⟩) 0 0) 0 [] := by
                  have h := Mid.empty (w := wr.drew) (base := wr.heap.size) (t := 3) b0.size
                  have e : wr.drew.heap.size = wr.heap.size := by simp
                  rw [e] at h; exact h
                refine hK _ _ (fun _ => trivial) ?_
                clear hK K
                try simp only [Act.put, List.setIfInBounds_toArray, List.set_cons_zero, List.set_cons_succ]
                refine wpAnyT_all (rs := [4, 6]) (by kernel_rfl) (by simp) ?_
                intro ix hix
                simp only [List.mem_cons, List.not_mem_nil, or_false] at hix
                rcases hix with rfl | rfl
                · refine wpT_op (o := _) (by rfl) (fun K hK => ?_)
                  refine step_append_src (by rfl) _ _ _ (by rfl) wr.heap.size 3 i0 _ 1 8 Try.underlying22 hi0 hz0 hz1 hz2 rfl (by omega) (.slice (some ⟨wr.heap.size, 0, none⟩) 0 0) (0) ([]) (by rfl) m2 wr.heap.size _ _ _ (ks .i64 (O.take (i))) (by rfl) (HA.out _ b1) (ks_one .i64 _) (by unfold maxLen; omega) (by omega) b1.size ?_
                  intro v3 wq4 hm5 hr6
                  have b7 := b1.grown hr6.grown b1.size (fun g hg => (m2.lt g hg).1)
                  refine hK _ _ (fun _ => trivial) ?_
                  clear hK K
                  try simp only [Act.put, List.setIfInBounds_toArray, List.set_cons_zero, List.set_cons_succ]
                  refine wpAnyT_all (rs := [6]) (by kernel_rfl) (by simp) ?_
                  intro ix hix
                  simp only [List.mem_cons, List.not_mem_nil, or_false] at hix
                  subst hix
                  refine wpT_op (o := _) (by rfl) (fun K hK => ?_)
                  go_simp
                  have b8 := b7.alloc b7.size (.cells #[.int .i64 x] 3)
                  have hl9 : (wq4.alloc (.cells #[.int .i64 x] 3)).cell? ⟨wq4.heap.size, 0, none⟩ = some (.int .i64 x) := World.cell?_alloc_at _ _ _ _ (by simp)
                  have m10 := Mid.alloc_ hm5 (.cells #[.int .i64 x] 3)
                  refine hK _ _ (fun _ => trivial) ?_
                  clear hK K
                  try simp only [Act.put, List.setIfInBounds_toArray, List.set_cons_zero, List.set_cons_succ]
                  refine wpAnyT_all (rs := [7]) (by kernel_rfl) (by simp) ?_
                  intro ix hix
                  simp only [List.mem_cons, List.not_mem_nil, or_false] at hix
                  subst hix
                  refine wpT_op (o := _) (by rfl) (fun K hK => ?_)
                  refine step_append_mid (by rfl) _ _ _ (by rfl) wr.heap.size 3 i0 _ 1 8 Try.underlying22 hi0 hz0 hz1 hz2 rfl (by omega) v3 (0 + i) ([] ++ ks .i64 (O.take (i))) (by rfl) m10 ⟨wq4.heap.size, 0, none⟩ 1 1 [.int .i64 x] (by rfl) (by rfl) (news_one hl9) (by simp [Value.oneCell']) (by unfold maxLen; omega) (by omega) b8.size ?_
                  intro v11 wq12 hm13 hr14
                  have b15 := b8.grown hr14.grown b8.size (fun g hg => (m10.lt g hg).1)
                  refine hK _ _ (fun _ => trivial) ?_
                  clear hK K
                  try simp only [Act.put, List.setIfInBounds_toArray, List.set_cons_zero, List.set_cons_succ]
                  refine wpAnyT_all (rs := [11]) (by kernel_rfl) (by simp) ?_
                  intro ix hix
                  simp only [List.mem_cons, List.not_mem_nil, or_false] at hix
                  subst hix
                  refine wpT_op (o := _) (by rfl) (fun K hK => ?_)
                  refine step_append_src (by rfl) _ _ _ (by rfl) wr.heap.size 3 i0 _ 1 8 Try.underlying22 hi0 hz0 hz1 hz2 rfl (by omega) v11 (0 + i + 1) ([] ++ ks .i64 (O.take (i)) ++ [.int .i64 x]) (by rfl) hm13 wr.heap.size _ _ _ (ks .i64 (O.drop (i))) (by rfl) (HBk.out _ b15) (ks_one .i64 _) (by unfold maxLen; omega) (by omega) b15.size ?_
                  intro v16 wq17 hm18 hr19
                  have b20 := b15.grown hr19.grown b15.size (fun g hg => (hm13.lt g hg).1)
                  refine hK _ _ (fun _ => trivial) ?_
                  clear hK K
                  try simp only [Act.put, List.setIfInBounds_toArray, List.set_cons_zero, List.set_cons_succ]
                  refine wpAnyT_all (rs := [12]) (by kernel_rfl) (by simp) ?_
                  intro ix hix
                  simp only [List.mem_cons, List.not_mem_nil, or_false] at hix
                  subst hix
                  refine wpT_op (o := _) (by rfl) (fun K hK => ?_)
                  try go_simp
                  refine hK _ _ (fun h => absurd h (by omega)) ?_
                  clear hK K
                  refine wpAnyT_done (by kernel_rfl) ?_ _
                  have HMz := Lib.hid hm18
                  have HBz := Lib.hid b20
                  clear hm18 b20
                  obtain ⟨Az, cz, ez, hmz⟩ := ins_mid HL.out (by omega) HMz.out hB HE.out
                  have HZ : Hid (SW l w _ (k + 1) (m + 1) cz Az (insI O x)) := Lib.hid ⟨hmz, HNX.out.symm, after HW.out.below HBz.out⟩
                  clear hmz HMz
                  subst ez
                  go_wp2
                  go_roundw
                  case rel => exact ⟨k + 1, _, cz, Az, insI O x, rfl, by go_num, by omega, by omega, HZ⟩
                  case measure => simp only [intOf]; omega
                · refine wpT_op (o := _) (by rfl) (fun K hK => ?_)
                  go_simp
                  have b21 := b1.alloc b1.size (.cells #[.int .i64 x] 3)
                  have hl22 : ((wr.drew.alloc (.cells #[] 3)).alloc (.cells #[.int .i64 x] 3)).cell? ⟨wr.heap.size + 1, 0, none⟩ = some (.int .i64 x) := World.cell?_alloc_at _ _ _ _ (by simp)
                  have m23 := Mid.alloc_ m2 (.cells #[.int .i64 x] 3)
                  refine hK _ _ (fun _ => trivial) ?_
                  clear hK K
                  try simp only [Act.put, List.setIfInBounds_toArray, List.set_cons_zero, List.set_cons_succ]
                  refine wpAnyT_all (rs := [4]) (by kernel_rfl) (by simp) ?_
                  intro ix hix
                  simp only [List.mem_cons, List.not_mem_nil, or_false] at hix
                  subst hix
                  refine wpT_op (o := _) (by rfl) (fun K hK => ?_)
                  refine step_append_src (by rfl) _ _ _ (by rfl) wr.heap.size 3 i0 _ 1 8 Try.underlying22 hi0 hz0 hz1 hz2 rfl (by omega) (.slice (some ⟨wr.heap.size, 0, none⟩) 0 0) (0) ([]) (by rfl) m23 wr.heap.size _ _ _ (ks .i64 (O.take (i))) (by rfl) (HA.out _ b21) (ks_one .i64 _) (by unfold maxLen; omega) (by omega) b21.size ?_
                  intro v24 wq25 hm26 hr27
                  have b28 := b21.grown hr27.grown b21.size (fun g hg => (m23.lt g hg).1)
                  have hl29 := ran_cell hr27 m23 hl22 (by simp [Value.ownBlock])
                  refine hK _ _ (fun _ => trivial) ?_
                  clear hK K
                  try simp only [Act.put, List.setIfInBounds_toArray, List.set_cons_zero, List.set_cons_succ]
                  refine wpAnyT_all (rs := [7]) (by kernel_rfl) (by simp) ?_
                  intro ix hix
                  simp only [List.mem_cons, List.not_mem_nil, or_false] at hix
                  subst hix
                  refine wpT_op (o := _) (by rfl) (fun K hK => ?_)
                  refine step_append_mid (by rfl) _ _ _ (by rfl) wr.heap.size 3 i0 _ 1 8 Try.underlying22 hi0 hz0 hz1 hz2 rfl (by omega) v24 (0 + i) ([] ++ ks .i64 (O.take (i))) (by rfl) hm26 ⟨wr.heap.size + 1, 0, none⟩ 1 1 [.int .i64 x] (by rfl) (by rfl) (news_one hl29) (by simp [Value.oneCell']) (by unfold maxLen; omega) (by omega) b28.size ?_
                  intro v30 wq31 hm32 hr33
                  have b34 := b28.grown hr33.grown b28.size (fun g hg => (hm26.lt g hg).1)
                  refine hK _ _ (fun _ => trivial) ?_
                  clear hK K
                  try simp only [Act.put, List.setIfInBounds_toArray, List.set_cons_zero, List.set_cons_succ]
                  refine wpAnyT_all (rs := [11]) (by kernel_rfl) (by simp) ?_
                  intro ix hix
                  simp only [List.mem_cons, List.not_mem_nil, or_false] at hix
                  subst hix
                  refine wpT_op (o := _) (by rfl) (fun K hK => ?_)
                  refine step_append_src (by rfl) _ _ _ (by rfl) wr.heap.size 3 i0 _ 1 8 Try.underlying22 hi0 hz0 hz1 hz2 rfl (by omega) v30 (0 + i + 1) ([] ++ ks .i64 (O.take (i)) ++ [.int .i64 x]) (by rfl) hm32 wr.heap.size _ _ _ (ks .i64 (O.drop (i))) (by rfl) (HBk.out _ b34) (ks_one .i64 _) (by unfold maxLen; omega) (by omega) b34.size ?_
                  intro v35 wq36 hm37 hr38
                  have b39 := b34.grown hr38.grown b34.size (fun g hg => (hm32.lt g hg).1)
                  refine hK _ _ (fun _ => trivial) ?_
                  clear hK K
                  try simp only [Act.put, List.setIfInBounds_toArray, List.set_cons_zero, List.set_cons_succ]
                  refine wpAnyT_all (rs := [12]) (by kernel_rfl) (by simp) ?_
                  intro ix hix
                  simp only [List.mem_cons, List.not_mem_nil, or_false] at hix
                  subst hix
                  refine wpT_op (o := _) (by rfl) (fun K hK => ?_)
                  try go_simp
                  refine hK _ _ (fun h => absurd h (by omega)) ?_
                  clear hK K
                  refine wpAnyT_done (by kernel_rfl) ?_ _
                  have HMz := Lib.hid hm37
                  have HBz := Lib.hid b39
                  clear hm37 b39
                  obtain ⟨Az, cz, ez, hmz⟩ := ins_mid HL.out (by omega) HMz.out hB HE.out
                  have HZ : Hid (SW l w _ (k + 1) (m + 1) cz Az (insI O x)) := Lib.hid ⟨hmz, HNX.out.symm, after HW.out.below HBz.out⟩
                  clear hmz HMz
                  subst ez
                  go_wp2
                  go_roundw
                  case rel => exact ⟨k + 1, _, cz, Az, insI O x, rfl, by go_num, by omega, by omega, HZ⟩
                  case measure => simp only [intOf]; omega
              · refine wpT_op (o := _) (by rfl) (fun K hK => ?_)
                go_simp
                have b40 := b0.alloc b0.size (.cells #[.int .i64 x] 3)
                have hl41 : (wr.drew.alloc (.cells #[.int .i64 x] 3)).cell? ⟨wr.heap.size, 0, none⟩ = some (.int .i64 x) := World.cell?_alloc_at _ _ _ _ (by simp)
                refine hK _ _ (fun _ => trivial) ?_
                clear hK K
                try simp only [Act.put, List.setIfInBounds_toArray, List.set_cons_zero, List.set_cons_succ]
                refine wpAnyT_all (rs := [0]) (by kernel_rfl) (by simp) ?_
                intro ix hix
                simp only [List.mem_cons, List.not_mem_nil, or_false] at hix
                subst hix
                refine wpT_op (o := _) (by rfl) (fun K hK => ?_)
                go_simp
                have b42 := b40.alloc b40.size (.cells #[] 3)
                have m43 : Mid ((wr.drew.alloc (.cells #[.int .i64 x] 3)).alloc (.cells #[] 3)) wr.heap.size 3 1 (.slice (some ⟨wr.heap.size + 1, 0, none⟩) 0 0) 0 [] := by
                  have h := Mid.empty (w := (wr.drew.alloc (.cells #[.int .i64 x] 3))) (base := wr.heap.size) (t := 3) b40.size
                  have e : (wr.drew.alloc (.cells #[.int .i64 x] 3)).heap.size = wr.heap.size + 1 := by simp
                  rw [e] at h; exact h
                have hl44 : ((wr.drew.alloc (.cells #[.int .i64 x] 3)).alloc (.cells #[] 3)).cell? ⟨wr.heap.size, 0, none⟩ = some (.int .i64 x) := (World.cell?_alloc_lt _ _ _ (by simp)).trans hl41
                refine hK _ _ (fun _ => trivial) ?_
                clear hK K
                try simp only [Act.put, List.setIfInBounds_toArray, List.set_cons_zero, List.set_cons_succ]
                refine wpAnyT_all (rs := [4]) (by kernel_rfl) (by simp) ?_
                intro ix hix
                simp only [List.mem_cons, List.not_mem_nil, or_false] at hix
                subst hix
                refine wpT_op (o := _) (by rfl) (fun K hK => ?_)
                refine step_append_src (by rfl) _ _ _ (by rfl) wr.heap.size 3 i0 _ 1 8 Try.underlying22 hi0 hz0 hz1 hz2 rfl (by omega) (.slice (some ⟨wr.heap.size + 1, 0, none⟩) 0 0) (0) ([]) (by rfl) m43 wr.heap.size _ _ _ (ks .i64 (O.take (i))) (by rfl) (HA.out _ b42) (ks_one .i64 _) (by unfold maxLen; omega) (by omega) b42.size ?_
                intro v45 wq46 hm47 hr48
                have b49 := b42.grown hr48.grown b42.size (fun g hg => (m43.lt g hg).1)
                have hl50 := ran_cell hr48 m43 hl44 (by simp [Value.ownBlock])
                refine hK _ _ (fun _ => trivial) ?_
                clear hK K
                try simp only [Act.put, List.setIfInBounds_toArray, List.set_cons_zero, List.set_cons_succ]
                refine wpAnyT_all (rs := [7]) (by kernel_rfl) (by simp) ?_
                intro ix hix
                simp only [List.mem_cons, List.not_mem_nil, or_false] at hix
                subst hix
                refine wpT_op (o := _) (by rfl) (fun K hK => ?_)
                refine step_append_mid (by rfl) _ _ _ (by rfl) wr.heap.size 3 i0 _ 1 8 Try.underlying22 hi0 hz0 hz1 hz2 rfl (by omega) v45 (0 + i) ([] ++ ks .i64 (O.take (i))) (by rfl) hm47 ⟨wr.heap.size, 0, none⟩ 1 1 [.int .i64 x] (by rfl) (by rfl) (news_one hl50) (by simp [Value.oneCell']) (by unfold maxLen; omega) (by omega) b49.size ?_
                intro v51 wq52 hm53 hr54
                have b55 := b49.grown hr54.grown b49.size (fun g hg => (hm47.lt g hg).1)
                refine hK _ _ (fun _ => trivial) ?_
                clear hK K
                try simp only [Act.put, List.setIfInBounds_toArray, List.set_cons_zero, List.set_cons_succ]
                refine wpAnyT_all (rs := [11]) (by kernel_rfl) (by simp) ?_
                intro ix hix
                simp only [List.mem_cons, List.not_mem_nil, or_false] at hix
                subst hix
                refine wpT_op (o := _) (by rfl) (fun K hK => ?_)
                refine step_append_src (by rfl) _ _ _ (by rfl) wr.heap.size 3 i0 _ 1 8 Try.underlying22 hi0 hz0 hz1 hz2 rfl (by omega) v51 (0 + i + 1) ([] ++ ks .i64 (O.take (i)) ++ [.int .i64 x]) (by rfl) hm53 wr.heap.size _ _ _ (ks .i64 (O.drop (i))) (by rfl) (HBk.out _ b55) (ks_one .i64 _) (by unfold maxLen; omega) (by omega) b55.size ?_
                intro v56 wq57 hm58 hr59
                have b60 := b55.grown hr59.grown b55.size (fun g hg => (hm53.lt g hg).1)
                refine hK _ _ (fun _ => trivial) ?_
                clear hK K
                try simp only [Act.put, List.setIfInBounds_toArray, List.set_cons_zero, List.set_cons_succ]
                refine wpAnyT_all (rs := [12]) (by kernel_rfl) (by simp) ?_
                intro ix hix
                simp only [List.mem_cons, List.not_mem_nil, or_false] at hix
                subst hix
                refine wpT_op (o := _) (by rfl) (fun K hK => ?_)
                try go_simp
                refine hK _ _ (fun h => absurd h (by omega)) ?_
                clear hK K
                refine wpAnyT_done (by kernel_rfl) ?_ _
                have HMz := Lib.hid hm58
                have HBz := Lib.hid b60
                clear hm58 b60
                obtain ⟨Az, cz, ez, hmz⟩ := ins_mid HL.out (by omega) HMz.out hB HE.out
                have HZ : Hid (SW l w _ (k + 1) (m + 1) cz Az (insI O x)) := Lib.hid ⟨hmz, HNX.out.symm, after HW.out.below HBz.out⟩
                clear hmz HMz
                subst ez
                go_wp2
                go_roundw
                case rel => exact ⟨k + 1, _, cz, Az, insI O x, rfl, by go_num, by omega, by omega, HZ⟩
                case measure => simp only [intOf]; omega
          · obtain rfl : m = i := by omega
            have HE : Hid (insI O x = O.take m ++ x :: O.drop m) := Lib.hid (insI_at O x m (by rw [HL.out]; exact Nat.le_refl _) HI.out (fun h => absurd h (by rw [HL.out]; omega)) HNM.out)
            have g3 : (0 : Int) ≤ m := by omega
            have g4 : (m : Int) ≤ cc := by omega
            by_cases hcn : cc = m
            · subst hcn
              cases Aq with
              | none =>
                go_wp2
                have HA : Hid (∀ w', Below wr.heap.size wr w' → Reads w' wr.heap.size 1 (none) (cc) (ks .i64 (O.take (cc)))) := Lib.hid (fun w' hb => ((HR.out.below hb).take_s (k := cc) (by omega)))
                have HBk : Hid (∀ w', Below wr.heap.size wr w' → Reads w' wr.heap.size 1 none 0 (ks .i64 (O.drop (cc)))) := Lib.hid (fun w' hb => by have := (HR.out.below hb).drop_s (k := cc) (c := cc) (by omega) (by omega); rw [if_pos rfl, Nat.sub_self] at this; exact this)
                refine wp_region_T (fun _ => True) 12 (by kernel_rfl) ?_
                have hS : True := trivial
                refine wpAnyT_take (i := 1) (oi := _) (v := ?_) (by rfl) (by kernel_rfl) (by intro _ _ _ h; exact h) hS (Or.inl ⟨by rfl, ?_⟩) ?_
                rotate_left 1
                · intro w' hS'
                  go_simp
                  all_goals with_reducible rfl
                simp only [Act.put, List.setIfInBounds_toArray, List.set_cons_zero, List.set_cons_succ]
                refine wpAnyT_take (i := 2) (oi := _) (v := ?_) (by rfl) (by kernel_rfl) (by intro _ _ _ h; exact h) hS (Or.inl ⟨by rfl, ?_⟩) ?_
                rotate_left 1
                · intro w' hS'
                  go_simp
                  all_goals with_reducible rfl
                simp only [Act.put, List.setIfInBounds_toArray, List.set_cons_zero, List.set_cons_succ]
                refine wpAnyT_take (i := 3) (oi := _) (v := ?_) (by rfl) (by kernel_rfl) (by intro _ _ _ h; exact h) hS (Or.inl ⟨by rfl, ?_⟩) ?_
                rotate_left 1
                · intro w' hS'
                  go_simp
                  all_goals with_reducible rfl
                simp only [Act.put, List.setIfInBounds_toArray, List.set_cons_zero, List.set_cons_succ]
                refine wpAnyT_take (i := 5) (oi := _) (v := ?_) (by rfl) (by kernel_rfl) (by intro _ _ _ h; exact h) hS (Or.inl ⟨by rfl, ?_⟩) ?_
                rotate_left 1
                · intro w' hS'
                  go_simp
                  all_goals with_reducible rfl
                simp only [Act.put, List.setIfInBounds_toArray, List.set_cons_zero, List.set_cons_succ]
                refine wpAnyT_take (i := 8) (oi := _) (v := ?_) (by rfl) (by kernel_rfl) (by intro _ _ _ h; exact h) hS (Or.inl ⟨by rfl, ?_⟩) ?_
                rotate_left 1
                · intro w' hS'
                  go_simp
                  all_goals with_reducible rfl
                simp only [Act.put, List.setIfInBounds_toArray, List.set_cons_zero, List.set_cons_succ]
                refine wpAnyT_take (i := 9) (oi := _) (v := ?_) (by rfl) (by kernel_rfl) (by intro _ _ _ h; exact h) hS (Or.inl ⟨by rfl, ?_⟩) ?_
                rotate_left 1
                · intro w' hS'
                  go_simp
                  all_goals with_reducible rfl
                simp only [Act.put, List.setIfInBounds_toArray, List.set_cons_zero, List.set_cons_succ]
                refine wpAnyT_take (i := 10) (oi := _) (v := ?_) (by rfl) (by kernel_rfl) (by intro _ _ _ h; exact h) hS (Or.inl ⟨by rfl, ?_⟩) ?_
                rotate_left 1
                · intro w' hS'
                  go_simp
                  all_goals with_reducible rfl
                simp only [Act.put, List.setIfInBounds_toArray, List.set_cons_zero, List.set_cons_succ]
                have b0 : Below wr.heap.size wr wr.drew := (Below.refl _ _).drew
                refine wpAnyT_all (rs := [0, 6]) (by kernel_rfl) (by simp) ?_
                intro ix hix
                simp only [List.mem_cons, List.not_mem_nil, or_false] at hix
                rcases hix with rfl | rfl
                · refine wpT_op (o := _) (by rfl) (fun K hK => ?_)
                  go_simp
                  have b1 := b0.alloc b0.size (.cells #[] 3)
                  have m2 : Mid (wr.drew.alloc (.cells #[] 3)) wr.heap.size 3 1 (.slice (some ⟨wr.heap.size, 0, none⟩) 0 0) 0 [] := by
                    have h := Mid.empty (w := wr.drew) (base := wr.heap.size) (t := 3) b0.size
                    have e : wr.drew.heap.size = wr.heap.size := by simp
                    rw [e] at h; exact h
                  refine hK _ _ (fun _ => trivial) ?_
                  clear hK K
                  try simp only [Act.put, List.setIfInBounds_toArray, List.set_cons_zero, List.set_cons_succ]
                  refine wpAnyT_all (rs := [4, 6]) (by kernel_rfl) (by simp) ?_
                  intro ix hix
                  simp only [List.mem_cons, List.not_mem_nil, or_false] at hix
                  rcases hix with rfl | rfl
                  · refine wpT_op (o := _) (by rfl) (fun K hK => ?_)
                    refine step_append_src (by rfl) _ _ _ (by rfl) wr.heap.size 3 i0 _ 1 8 Try.underlying22 hi0 hz0 hz1 hz2 rfl (by omega) (.slice (some ⟨wr.heap.size, 0, none⟩) 0 0) (0) ([]) (by rfl) m2 wr.heap.size _ _ _ (ks .i64 (O.take (cc))) (by rfl) (HA.out _ b1) (ks_one .i64 _) (by unfold maxLen; omega) (by omega) b1.size ?_
                    intro v3 wq4 hm5 hr6
                    have b7 := b1.grown hr6.grown b1.size (fun g hg => (m2.lt g hg).1)
                    refine hK _ _ (fun _ => trivial) ?_
                    clear hK K
                    try simp only [Act.put, List.setIfInBounds_toArray, List.set_cons_zero, List.set_cons_succ]
                    refine wpAnyT_all (rs := [6]) (by kernel_rfl) (by simp) ?_
                    intro ix hix
                    simp only [List.mem_cons, List.not_mem_nil, or_false] at hix
                    subst hix
                    refine wpT_op (o := _) (by rfl) (fun K hK => ?_)
                    go_simp
                    have b8 := b7.alloc b7.size (.cells #[.int .i64 x] 3)
                    have hl9 : (wq4.alloc (.cells #[.int .i64 x] 3)).cell? ⟨wq4.heap.size, 0, none⟩ = some (.int .i64 x) := World.cell?_alloc_at _ _ _ _ (by simp)
                    have m10 := Mid.alloc_ hm5 (.cells #[.int .i64 x] 3)
                    refine hK _ _ (fun _ => trivial) ?_
                    clear hK K
                    try simp only [Act.put, List.setIfInBounds_toArray, List.set_cons_zero, List.set_cons_succ]
                    refine wpAnyT_all (rs := [7]) (by kernel_rfl) (by simp) ?_
                    intro ix hix
                    simp only [List.mem_cons, List.not_mem_nil, or_false] at hix
                    subst hix
                    refine wpT_op (o := _) (by rfl) (fun K hK => ?_)
                    refine step_append_mid (by rfl) _ _ _ (by rfl) wr.heap.size 3 i0 _ 1 8 Try.underlying22 hi0 hz0 hz1 hz2 rfl (by omega) v3 (0 + cc) ([] ++ ks .i64 (O.take (cc))) (by rfl) m10 ⟨wq4.heap.size, 0, none⟩ 1 1 [.int .i64 x] (by rfl) (by rfl) (news_one hl9) (by simp [Value.oneCell']) (by unfold maxLen; omega) (by omega) b8.size ?_
                    intro v11 wq12 hm13 hr14
                    have b15 := b8.grown hr14.grown b8.size (fun g hg => (m10.lt g hg).1)
                    refine hK _ _ (fun _ => trivial) ?_
                    clear hK K
                    try simp only [Act.put, List.setIfInBounds_toArray, List.set_cons_zero, List.set_cons_succ]
                    refine wpAnyT_all (rs := [11]) (by kernel_rfl) (by simp) ?_
                    intro ix hix
                    simp only [List.mem_cons, List.not_mem_nil, or_false] at hix
                    subst hix
                    refine wpT_op (o := _) (by rfl) (fun K hK => ?_)
                    refine step_append_src (by rfl) _ _ _ (by rfl) wr.heap.size 3 i0 _ 1 8 Try.underlying22 hi0 hz0 hz1 hz2 rfl (by omega) v11 (0 + cc + 1) ([] ++ ks .i64 (O.take (cc)) ++ [.int .i64 x]) (by rfl) hm13 wr.heap.size _ _ _ (ks .i64 (O.drop (cc))) (by rfl) (HBk.out _ b15) (ks_one .i64 _) (by unfold maxLen; omega) (by omega) b15.size ?_
                    intro v16 wq17 hm18 hr19
                    have b20 := b15.grown hr19.grown b15.size (fun g hg => (hm13.lt g hg).1)
                    refine hK _ _ (fun _ => trivial) ?_
                    clear hK K
                    try simp only [Act.put, List.setIfInBounds_toArray, List.set_cons_zero, List.set_cons_succ]
                    refine wpAnyT_all (rs := [12]) (by kernel_rfl) (by simp) ?_
                    intro ix hix
                    simp only [List.mem_cons, List.not_mem_nil, or_false] at hix
                    subst hix
                    refine wpT_op (o := _) (by rfl) (fun K hK => ?_)
                    try go_simp
                    refine hK _ _ (fun h => absurd h (by omega)) ?_
                    clear hK K
                    refine wpAnyT_done (by kernel_rfl) ?_ _
                    have HMz := Lib.hid hm18
                    have HBz := Lib.hid b20
                    clear hm18 b20
                    obtain ⟨Az, cz, ez, hmz⟩ := ins_mid HL.out (by omega) (by rw [Nat.sub_self]; exact HMz.out) hB HE.out
                    have HZ : Hid (SW l w _ (k + 1) (cc + 1) cz Az (insI O x)) := Lib.hid ⟨hmz, HNX.out.symm, after HW.out.below HBz.out⟩
                    clear hmz HMz
                    subst ez
                    go_wp2
                    go_roundw
                    case rel => exact ⟨k + 1, _, cz, Az, insI O x, rfl, by go_num, by omega, by omega, HZ⟩
                    case measure => simp only [intOf]; omega
                  · refine wpT_op (o := _) (by rfl) (fun K hK => ?_)
                    go_simp
                    have b21 := b1.alloc b1.size (.cells #[.int .i64 x] 3)
                    have hl22 : ((wr.drew.alloc (.cells #[] 3)).alloc (.cells #[.int .i64 x] 3)).cell? ⟨wr.heap.size + 1, 0, none⟩ = some (.int .i64 x) := World.cell?_alloc_at _ _ _ _ (by simp)
                    have m23 := Mid.alloc_ m2 (.cells #[.int .i64 x] 3)
                    refine hK _ _ (fun _ => trivial) ?_
                    clear hK K
                    try simp only [Act.put, List.setIfInBounds_toArray, List.set_cons_zero, List.set_cons_succ]
                    refine wpAnyT_all (rs := [4]) (by kernel_rfl) (by simp) ?_
                    intro ix hix
                    simp only [List.mem_cons, List.not_mem_nil, or_false] at hix
                    subst hix
                    refine wpT_op (o := _) (by rfl) (fun K hK => ?_)
                    refine step_append_src (by rfl) _ _ _ (by rfl) wr.heap.size 3 i0 _ 1 8 Try.underlying22 hi0 hz0 hz1 hz2 rfl (by omega) (.slice (some ⟨wr.heap.size, 0, none⟩) 0 0) (0) ([]) (by rfl) m23 wr.heap.size _ _ _ (ks .i64 (O.take (cc))) (by rfl) (HA.out _ b21) (ks_one .i64 _) (by unfold maxLen; omega) (by omega) b21.size ?_
                    intro v24 wq25 hm26 hr27
                    have b28 := b21.grown hr27.grown b21.size (fun g hg => (m23.lt g hg).1)
                    have hl29 := ran_cell hr27 m23 hl22 (by simp [Value.ownBlock])
                    refine hK _ _ (fun _ => trivial) ?_
                    clear hK K
                    try simp only [Act.put, List.setIfInBounds_toArray, List.set_cons_zero, List.set_cons_succ]
                    refine wpAnyT_all (rs := [7]) (by kernel_rfl) (by simp) ?_
                    intro ix hix
                    simp only [List.mem_cons, List.not_mem_nil, or_false] at hix
                    subst hix
                    refine wpT_op (o := _) (by rfl) (fun K hK => ?_)
                    refine step_append_mid (by rfl) _ _ _ (by rfl) wr.heap.size 3 i0 _ 1 8 Try.underlying22 hi0 hz0 hz1 hz2 rfl (by omega) v24 (0 + cc) ([] ++ ks .i64 (O.take (cc))) (by rfl) hm26 ⟨wr.heap.size + 1, 0, none⟩ 1 1 [.int .i64 x] (by rfl) (by rfl) (news_one hl29) (by simp [Value.oneCell']) (by unfold maxLen; omega) (by omega) b28.size ?_
                    intro v30 wq31 hm32 hr33
                    have b34 := b28.grown hr33.grown b28.size (fun g hg => (hm26.lt g hg).1)
                    refine hK _ _ (fun _ => trivial) ?_
                    clear hK K
                    try simp only [Act.put, List.setIfInBounds_toArray, List.set_cons_zero, List.set_cons_succ]
                    refine wpAnyT_all (rs := [11]) (by kernel_rfl) (by simp) ?_
                    intro ix hix
                    simp only [List.mem_cons, List.not_mem_nil, or_false] at hix
                    subst hix
                    refine wpT_op (o := _) (by rfl) (fun K hK => ?_)
                    refine step_append_src (by rfl) _ _ _ (by rfl) wr.heap.size 3 i0 _ 1 8 Try.underlying22 hi0 hz0 hz1 hz2 rfl (by omega) v30 (0 + cc + 1) ([] ++ ks .i64 (O.take (cc)) ++ [.int .i64 x]) (by rfl) hm32 wr.heap.size _ _ _ (ks .i64 (O.drop (cc))) (by rfl) (HBk.out _ b34) (ks_one .i64 _) (by unfold maxLen; omega) (by omega) b34.size ?_
                    intro v35 wq36 hm37 hr38
                    have b39 := b34.grown hr38.grown b34.size (fun g hg => (hm32.lt g hg).1)
                    refine hK _ _ (fun _ => trivial) ?_
                    clear hK K
                    try simp only [Act.put, List.setIfInBounds_toArray, List.set_cons_zero, List.set_cons_succ]
                    refine wpAnyT_all (rs := [12]) (by kernel_rfl) (by simp) ?_
                    intro ix hix
                    simp only [List.mem_cons, List.not_mem_nil, or_false] at hix
                    subst hix
                    refine wpT_op (o := _) (by rfl) (fun K hK => ?_)
                    try go_simp
                    refine hK _ _ (fun h => absurd h (by omega)) ?_
                    clear hK K
                    refine wpAnyT_done (by kernel_rfl) ?_ _
                    have HMz := Lib.hid hm37
                    have HBz := Lib.hid b39
                    clear hm37 b39
                    obtain ⟨Az, cz, ez, hmz⟩ := ins_mid HL.out (by omega) (by rw [Nat.sub_self]; exact HMz.out) hB HE.out
                    have HZ : Hid (SW l w _ (k + 1) (cc + 1) cz Az (insI O x)) := Lib.hid ⟨hmz, HNX.out.symm, after HW.out.below HBz.out⟩
                    clear hmz HMz
                    subst ez
                    go_wp2
                    go_roundw
                    case rel => exact ⟨k + 1, _, cz, Az, insI O x, rfl, by go_num, by omega, by omega, HZ⟩
                    case measure => simp only [intOf]; omega
                · refine wpT_op (o := _) (by rfl) (fun K hK => ?_)
                  go_simp
                  have b40 := b0.alloc b0.size (.cells #[.int .i64 x] 3)
                  have hl41 : (wr.drew.alloc (.cells #[.int .i64 x] 3)).cell? ⟨wr.heap.size, 0, none⟩ = some (.int .i64 x) := World.cell?_alloc_at _ _ _ _ (by simp)
                  refine hK _ _ (fun _ => trivial) ?_
                  clear hK K
                  try simp only [Act.put, List.setIfInBounds_toArray, List.set_cons_zero, List.set_cons_succ]
                  refine wpAnyT_all (rs := [0]) (by kernel_rfl) (by simp) ?_
                  intro ix hix
                  simp only [List.mem_cons, List.not_mem_nil, or_false] at hix
                  subst hix
                  refine wpT_op (o := _) (by rfl) (fun K hK => ?_)
                  go_simp
                  have b42 := b40.alloc b40.size (.cells #[] 3)
                  have m43 : Mid ((wr.drew.alloc (.cells #[.int .i64 x] 3)).alloc (.cells #[] 3)) wr.heap.size 3 1 (.slice (some ⟨wr.heap.size + 1, 0, none⟩) 0 0) 0 [] := by
                    have h := Mid.empty (w := (wr.drew.alloc (.cells #[.int .i64 x] 3))) (base := wr.heap.size) (t := 3) b40.size
                    have e : (wr.drew.alloc (.cells #[.int .i64 x] 3)).heap.size = wr.heap.size + 1 := by simp
                    rw [e] at h; exact h
                  have hl44 : ((wr.drew.alloc (.cells #[.int .i64 x] 3)).alloc (.cells #[] 3)).cell? ⟨wr.heap.size, 0, none⟩ = some (.int .i64 x) := (World.cell?_alloc_lt _ _ _ (by simp)).trans hl41
                  refine hK _ _ (fun _ => trivial) ?_
                  clear hK K
                  try simp only [Act.put, List.setIfInBounds_toArray, List.set_cons_zero, List.set_cons_succ]
                  refine wpAnyT_all (rs := [4]) (by kernel_rfl) (by simp) ?_
                  intro ix hix
                  simp only [List.mem_cons, List.not_mem_nil, or_false] at hix
                  subst hix
                  refine wpT_op (o := _) (by rfl) (fun K hK => ?_)
                  refine step_append_src (by rfl) _ _ _ (by rfl) wr.heap.size 3 i0 _ 1 8 Try.underlying22 hi0 hz0 hz1 hz2 rfl (by omega) (.slice (some ⟨wr.heap.size + 1, 0, none⟩) 0 0) (0) ([]) (by rfl) m43 wr.heap.size _ _ _ (ks .i64 (O.take (cc))) (by rfl) (HA.out _ b42) (ks_one .i64 _) (by unfold maxLen; omega) (by omega) b42.size ?_
                  intro v45 wq46 hm47 hr48
                  have b49 := b42.grown hr48.grown b42.size (fun g hg => (m43.lt g hg).1)
                  have hl50 := ran_cell hr48 m43 hl44 (by simp [Value.ownBlock])
                  refine hK _ _ (fun _ => trivial) ?_
                  clear hK K
                  try simp only [Act.put, List.setIfInBounds_toArray, List.set_cons_zero, List.set_cons_succ]
                  refine wpAnyT_all (rs := [7]) (by kernel_rfl) (by simp) ?_
                  intro ix hix
                  simp only [List.mem_cons, List.not_mem_nil, or_false] at hix
                  subst hix
                  refine wpT_op (o := _) (by rfl) (fun K hK => ?_)
                  refine step_append_mid (by rfl) _ _ _ (by rfl) wr.heap.size 3 i0 _ 1 8 Try.underlying22 hi0 hz0 hz1 hz2 rfl (by omega) v45 (0 + cc) ([] ++ ks .i64 (O.take (cc))) (by rfl) hm47 ⟨wr.heap.size, 0, none⟩ 1 1 [.int .i64 x] (by rfl) (by rfl) (news_one hl50) (by simp [Value.oneCell']) (by unfold maxLen; omega) (by omega) b49.size ?_
                  intro v51 wq52 hm53 hr54
                  have b55 := b49.grown hr54.grown b49.size (fun g hg => (hm47.lt g hg).1)
                  refine hK _ _ (fun _ => trivial) ?_
                  clear hK K
                  try simp only [Act.put, List.setIfInBounds_toArray, List.set_cons_zero, List.set_cons_succ]
                  refine wpAnyT_all (rs := [11]) (by kernel_rfl) (by simp) ?_
                  intro ix hix
                  simp only [List.mem_cons, List.not_mem_nil, or_false] at hix
                  subst hix
                  refine wpT_op (o := _) (by rfl) (fun K hK => ?_)
                  refine step_append_src (by rfl) _ _ _ (by rfl) wr.heap.size 3 i0 _ 1 8 Try.underlying22 hi0 hz0 hz1 hz2 rfl (by omega) v51 (0 + cc + 1) ([] ++ ks .i64 (O.take (cc)) ++ [.int .i64 x]) (by rfl) hm53 wr.heap.size _ _ _ (ks .i64 (O.drop (cc))) (by rfl) (HBk.out _ b55) (ks_one .i64 _) (by unfold maxLen; omega) (by omega) b55.size ?_
                  intro v56 wq57 hm58 hr59
                  have b60 := b55.grown hr59.grown b55.size (fun g hg => (hm53.lt g hg).1)
                  refine hK _ _ (fun _ => trivial) ?_
                  clear hK K
                  try simp only [Act.put, List.setIfInBounds_toArray, List.set_cons_zero, List.set_cons_succ]
                  refine wpAnyT_all (rs := [12]) (by kernel_rfl) (by simp) ?_
                  intro ix hix
                  simp only [List.mem_cons, List.not_mem_nil, or_false] at hix
                  subst hix
                  refine wpT_op (o := _) (by rfl) (fun K hK => ?_)
                  try go_simp
                  refine hK _ _ (fun h => absurd h (by omega)) ?_
                  clear hK K
                  refine wpAnyT_done (by kernel_rfl) ?_ _
                  have HMz := Lib.hid hm58
                  have HBz := Lib.hid b60
                  clear hm58 b60
                  obtain ⟨Az, cz, ez, hmz⟩ := ins_mid HL.out (by omega) (by rw [Nat.sub_self]; exact HMz.out) hB HE.out
                  have HZ : Hid (SW l w _ (k + 1) (cc + 1) cz Az (insI O x)) := Lib.hid ⟨hmz, HNX.out.symm, after HW.out.below HBz.out⟩
                  clear hmz HMz
                  subst ez
                  go_wp2
                  go_roundw
                  case rel => exact ⟨k + 1, _, cz, Az, insI O x, rfl, by go_num, by omega, by omega, HZ⟩
                  case measure => simp only [intOf]; omega
              | some ad =>
                go_wp2
                have HA : Hid (∀ w', Below wr.heap.size wr w' → Reads w' wr.heap.size 1 (some ad) (cc) (ks .i64 (O.take (cc)))) := Lib.hid (fun w' hb => ((HR.out.below hb).take_s (k := cc) (by omega)))
                have HBk : Hid (∀ w', Below wr.heap.size wr w' → Reads w' wr.heap.size 1 (some ad) 0 (ks .i64 (O.drop (cc)))) := Lib.hid (fun w' hb => by have := (HR.out.below hb).drop_s (k := cc) (c := cc) (by omega) (by omega); rw [if_pos rfl, Nat.sub_self] at this; exact this)
                refine wp_region_T (fun _ => True) 12 (by kernel_rfl) ?_
                have hS : True := trivial
                refine wpAnyT_take (i := 1) (oi := _) (v := ?_) (by rfl) (by kernel_rfl) (by intro _ _ _ h; exact h) hS (Or.inl ⟨by rfl, ?_⟩) ?_
                rotate_left 1
                · intro w' hS'
                  go_simp
                  all_goals with_reducible rfl
                simp only [Act.put, List.setIfInBounds_toArray, List.set_cons_zero, List.set_cons_succ]
                refine wpAnyT_take (i := 2) (oi := _) (v := ?_) (by rfl) (by kernel_rfl) (by intro _ _ _ h; exact h) hS (Or.inl ⟨by rfl, ?_⟩) ?_
                rotate_left 1
                · intro w' hS'
                  go_simp
                  all_goals with_reducible rfl
                simp only [Act.put, List.setIfInBounds_toArray, List.set_cons_zero, List.set_cons_succ]
                refine wpAnyT_take (i := 3) (oi := _) (v := ?_) (by rfl) (by kernel_rfl) (by intro _ _ _ h; exact h) hS (Or.inl ⟨by rfl, ?_⟩) ?_
                rotate_left 1
                · intro w' hS'
                  go_simp
                  all_goals with_reducible rfl
                simp only [Act.put, List.setIfInBounds_toArray, List.set_cons_zero, List.set_cons_succ]
                refine wpAnyT_take (i := 5) (oi := _) (v := ?_) (by rfl) (by kernel_rfl) (by intro _ _ _ h; exact h) hS (Or.inl ⟨by rfl, ?_⟩) ?_
                rotate_left 1
                · intro w' hS'
                  go_simp
                  all_goals with_reducible rfl
                simp only [Act.put, List.setIfInBounds_toArray, List.set_cons_zero, List.set_cons_succ]
                refine wpAnyT_take (i := 8) (oi := _) (v := ?_) (by rfl) (by kernel_rfl) (by intro _ _ _ h; exact h) hS (Or.inl ⟨by rfl, ?_⟩) ?_
                rotate_left 1
                · intro w' hS'
                  go_simp
                  all_goals with_reducible rfl
                simp only [Act.put, List.setIfInBounds_toArray, List.set_cons_zero, List.set_cons_succ]
                refine wpAnyT_take (i := 9) (oi := _) (v := ?_) (by rfl) (by kernel_rfl) (by intro _ _ _ h; exact h) hS (Or.inl ⟨by rfl, ?_⟩) ?_
                rotate_left 1
                · intro w' hS'
                  go_simp
                  all_goals with_reducible rfl
                simp only [Act.put, List.setIfInBounds_toArray, List.set_cons_zero, List.set_cons_succ]
                refine wpAnyT_take (i := 10) (oi := _) (v := ?_) (by rfl) (by kernel_rfl) (by intro _ _ _ h; exact h) hS (Or.inl ⟨by rfl, ?_⟩) ?_
                rotate_left 1
                · intro w' hS'
                  go_simp
                  all_goals with_reducible rfl
                simp only [Act.put, List.setIfInBounds_toArray, List.set_cons_zero, List.set_cons_succ]
                have b0 : Below wr.heap.size wr wr.drew := (Below.refl _ _).drew
                refine wpAnyT_all (rs := [0, 6]) (by kernel_rfl) (by simp) ?_
                intro ix hix
                simp only [List.mem_cons, List.not_mem_nil, or_false] at hix
                rcases hix with rfl | rfl
                · refine wpT_op (o := _) (by rfl) (fun K hK => ?_)
                  go_simp
                  have b1 := b0.alloc b0.size (.cells #[] 3)
                  have m2 : Mid (wr.drew.alloc (.cells #[] 3)) wr.heap.size 3 1 (.slice (some ⟨wr.heap.size, 0, none⟩) 0 0) 0 [] := by
                    have h := Mid.empty (w := wr.drew) (base := wr.heap.size) (t := 3) b0.size
                    have e : wr.drew.heap.size = wr.heap.size := by simp
                    rw [e] at h; exact h
                  refine hK _ _ (fun _ => trivial) ?_
                  clear hK K
                  try simp only [Act.put, List.setIfInBounds_toArray, List.set_cons_zero, List.set_cons_succ]
                  refine wpAnyT_all (rs := [4, 6]) (by kernel_rfl) (by simp) ?_
                  intro ix hix
                  simp only [List.mem_cons, List.not_mem_nil, or_false] at hix
                  rcases hix with rfl | rfl
                  · refine wpT_op (o := _) (by rfl) (fun K hK => ?_)
                    refine step_append_src (by rfl) _ _ _ (by rfl) wr.heap.size 3 i0 _ 1 8 Try.underlying22 hi0 hz0 hz1 hz2 rfl (by omega) (.slice (some ⟨wr.heap.size, 0, none⟩) 0 0) (0) ([]) (by rfl) m2 wr.heap.size _ _ _ (ks .i64 (O.take (cc))) (by rfl) (HA.out _ b1) (ks_one .i64 _) (by unfold maxLen; omega) (by omega) b1.size ?_
                    intro v3 wq4 hm5 hr6
                    have b7 := b1.grown hr6.grown b1.size (fun g hg => (m2.lt g hg).1)
                    refine hK _ _ (fun _ => trivial) ?_
                    clear hK K
                    try simp only [Act.put, List.setIfInBounds_toArray, List.set_cons_zero, List.set_cons_succ]
                    refine wpAnyT_all (rs := [6]) (by kernel_rfl) (by simp) ?_
                    intro ix hix
                    simp only [List.mem_cons, List.not_mem_nil, or_false] at hix
                    subst hix
                    refine wpT_op (o := _) (by rfl) (fun K hK => ?_)
                    go_simp
                    have b8 := b7.alloc b7.size (.cells #[.int .i64 x] 3)
                    have hl9 : (wq4.alloc (.cells #[.int .i64 x] 3)).cell? ⟨wq4.heap.size, 0, none⟩ = some (.int .i64 x) := World.cell?_alloc_at _ _ _ _ (by simp)
                    have m10 := Mid.alloc_ hm5 (.cells #[.int .i64 x] 3)
                    refine hK _ _ (fun _ => trivial) ?_
                    clear hK K
                    try simp only [Act.put, List.setIfInBounds_toArray, List.set_cons_zero, List.set_cons_succ]
                    refine wpAnyT_all (rs := [7]) (by kernel_rfl) (by simp) ?_
                    intro ix hix
                    simp only [List.mem_cons, List.not_mem_nil, or_false] at hix
                    subst hix
                    refine wpT_op (o := _) (by rfl) (fun K hK => ?_)
                    refine step_append_mid (by rfl) _ _ _ (by rfl) wr.heap.size 3 i0 _ 1 8 Try.underlying22 hi0 hz0 hz1 hz2 rfl (by omega) v3 (0 + cc) ([] ++ ks .i64 (O.take (cc))) (by rfl) m10 ⟨wq4.heap.size, 0, none⟩ 1 1 [.int .i64 x] (by rfl) (by rfl) (news_one hl9) (by simp [Value.oneCell']) (by unfold maxLen; omega) (by omega) b8.size ?_
                    intro v11 wq12 hm13 hr14
                    have b15 := b8.grown hr14.grown b8.size (fun g hg => (m10.lt g hg).1)
                    refine hK _ _ (fun _ => trivial) ?_
                    clear hK K
                    try simp only [Act.put, List.setIfInBounds_toArray, List.set_cons_zero, List.set_cons_succ]
                    refine wpAnyT_all (rs := [11]) (by kernel_rfl) (by simp) ?_
                    intro ix hix
                    simp only [List.mem_cons, List.not_mem_nil, or_false] at hix
                    subst hix
                    refine wpT_op (o := _) (by rfl) (fun K hK => ?_)
                    refine step_append_src (by rfl) _ _ _ (by rfl) wr.heap.size 3 i0 _ 1 8 Try.underlying22 hi0 hz0 hz1 hz2 rfl (by omega) v11 (0 + cc + 1) ([] ++ ks .i64 (O.take (cc)) ++ [.int .i64 x]) (by rfl) hm13 wr.heap.size _ _ _ (ks .i64 (O.drop (cc))) (by rfl) (HBk.out _ b15) (ks_one .i64 _) (by unfold maxLen; omega) (by omega) b15.size ?_
                    intro v16 wq17 hm18 hr19
                    have b20 := b15.grown hr19.grown b15.size (fun g hg => (hm13.lt g hg).1)
                    refine hK _ _ (fun _ => trivial) ?_
                    clear hK K
                    try simp only [Act.put, List.setIfInBounds_toArray, List.set_cons_zero, List.set_cons_succ]
                    refine wpAnyT_all (rs := [12]) (by kernel_rfl) (by simp) ?_
                    intro ix hix
                    simp only [List.mem_cons, List.not_mem_nil, or_false] at hix
                    subst hix
                    refine wpT_op (o := _) (by rfl) (fun K hK => ?_)
                    try go_simp
                    refine hK _ _ (fun h => absurd h (by omega)) ?_
                    clear hK K
                    refine wpAnyT_done (by kernel_rfl) ?_ _
                    have HMz := Lib.hid hm18
                    have HBz := Lib.hid b20
                    clear hm18 b20
                    obtain ⟨Az, cz, ez, hmz⟩ := ins_mid HL.out (by omega) (by rw [Nat.sub_self]; exact HMz.out) hB HE.out
                    have HZ : Hid (SW l w _ (k + 1) (cc + 1) cz Az (insI O x)) := Lib.hid ⟨hmz, HNX.out.symm, after HW.out.below HBz.out⟩
                    clear hmz HMz
                    subst ez
                    go_wp2
                    go_roundw
                    case rel => exact ⟨k + 1, _, cz, Az, insI O x, rfl, by go_num, by omega, by omega, HZ⟩
                    case measure => simp only [intOf]; omega
                  · refine wpT_op (o := _) (by rfl) (fun K hK => ?_)
                    go_simp
                    have b21 := b1.alloc b1.size (.cells #[.int .i64 x] 3)
                    have hl22 : ((wr.drew.alloc (.cells #[] 3)).alloc (.cells #[.int .i64 x] 3)).cell? ⟨wr.heap.size + 1, 0, none⟩ = some (.int .i64 x) := World.cell?_alloc_at _ _ _ _ (by simp)
                    have m23 := Mid.alloc_ m2 (.cells #[.int .i64 x] 3)
                    refine hK _ _ (fun _ => trivial) ?_
                    clear hK K
                    try simp only [Act.put, List.setIfInBounds_toArray, List.set_cons_zero, List.set_cons_succ]
                    refine wpAnyT_all (rs := [4]) (by kernel_rfl) (by simp) ?_
                    intro ix hix
                    simp only [List.mem_cons, List.not_mem_nil, or_false] at hix
                    subst hix
                    refine wpT_op (o := _) (by rfl) (fun K hK => ?_)
                    refine step_append_src (by rfl) _ _ _ (by rfl) wr.heap.size 3 i0 _ 1 8 Try.underlying22 hi0 hz0 hz1 hz2 rfl (by omega) (.slice (some ⟨wr.heap.size, 0, none⟩) 0 0) (0) ([]) (by rfl) m23 wr.heap.size _ _ _ (ks .i64 (O.take (cc))) (by rfl) (HA.out _ b21) (ks_one .i64 _) (by unfold maxLen; omega) (by omega) b21.size ?_
                    intro v24 wq25 hm26 hr27
                    have b28 := b21.grown hr27.grown b21.size (fun g hg => (m23.lt g hg).1)
                    have hl29 := ran_cell hr27 m23 hl22 (by simp [Value.ownBlock])
                    refine hK _ _ (fun _ => trivial) ?_
                    clear hK K
                    try simp only [Act.put, List.setIfInBounds_toArray, List.set_cons_zero, List.set_cons_succ]
                    refine wpAnyT_all (rs := [7]) (by kernel_rfl) (by simp) ?_
                    intro ix hix
                    simp only [List.mem_cons, List.not_mem_nil, or_false] at hix
                    subst hix
                    refine wpT_op (o := _) (by rfl) (fun K hK => ?_)
                    refine step_append_mid (by rfl) _ _ _ (by rfl) wr.heap.size 3 i0 _ 1 8 Try.underlying22 hi0 hz0 hz1 hz2 rfl (by omega) v24 (0 + cc) ([] ++ ks .i64 (O.take (cc))) (by rfl) hm26 ⟨wr.heap.size + 1, 0, none⟩ 1 1 [.int .i64 x] (by rfl) (by rfl) (news_one hl29) (by simp [Value.oneCell']) (by unfold maxLen; omega) (by omega) b28.size ?_
                    intro v30 wq31 hm32 hr33
                    have b34 := b28.grown hr33.grown b28.size (fun g hg => (hm26.lt g hg).1)
                    refine hK _ _ (fun _ => trivial) ?_
                    clear hK K
                    try simp only [Act.put, List.setIfInBounds_toArray, List.set_cons_zero, List.set_cons_succ]
                    refine wpAnyT_all (rs := [11]) (by kernel_rfl) (by simp) ?_
                    intro ix hix
                    simp only [List.mem_cons, List.not_mem_nil, or_false] at hix
                    subst hix
                    refine wpT_op (o := _) (by rfl) (fun K hK => ?_)
                    refine step_append_src (by rfl) _ _ _ (by rfl) wr.heap.size 3 i0 _ 1 8 Try.underlying22 hi0 hz0 hz1 hz2 rfl (by omega) v30 (0 + cc + 1) ([] ++ ks .i64 (O.take (cc)) ++ [.int .i64 x]) (by rfl) hm32 wr.heap.size _ _ _ (ks .i64 (O.drop (cc))) (by rfl) (HBk.out _ b34) (ks_one .i64 _) (by unfold maxLen; omega) (by omega) b34.size ?_
                    intro v35 wq36 hm37 hr38
                    have b39 := b34.grown hr38.grown b34.size (fun g hg => (hm32.lt g hg).1)
                    refine hK _ _ (fun _ => trivial) ?_
                    clear hK K
                    try simp only [Act.put, List.setIfInBounds_toArray, List.set_cons_zero, List.set_cons_succ]
                    refine wpAnyT_all (rs := [12]) (by kernel_rfl) (by simp) ?_
                    intro ix hix
                    simp only [List.mem_cons, List.not_mem_nil, or_false] at hix
                    subst hix
                    refine wpT_op (o := _) (by rfl) (fun K hK => ?_)
                    try go_simp
                    refine hK _ _ (fun h => absurd h (by omega)) ?_
                    clear hK K
                    refine wpAnyT_done (by kernel_rfl) ?_ _
                    have HMz := Lib.hid hm37
                    have HBz := Lib.hid b39
                    clear hm37 b39
                    obtain ⟨Az, cz, ez, hmz⟩ := ins_mid HL.out (by omega) (by rw [Nat.sub_self]; exact HMz.out) hB HE.out
                    have HZ : Hid (SW l w _ (k + 1) (cc + 1) cz Az (insI O x)) := Lib.hid ⟨hmz, HNX.out.symm, after HW.out.below HBz.out⟩
                    clear hmz HMz
                    subst ez
                    go_wp2
                    go_roundw
                    case rel => exact ⟨k + 1, _, cz, Az, insI O x, rfl, by go_num, by omega, by omega, HZ⟩
                    case measure => simp only [intOf]; omega
                · refine wpT_op (o := _) (by rfl) (fun K hK => ?_)
                  go_simp
                  have b40 := b0.alloc b0.size (.cells #[.int .i64 x] 3)
                  have hl41 : (wr.drew.alloc (.cells #[.int .i64 x] 3)).cell? ⟨wr.heap.size, 0, none⟩ = some (.int .i64 x) := World.cell?_alloc_at _ _ _ _ (by simp)
                  refine hK _ _ (fun _ => trivial) ?_
                  clear hK K
                  try simp only [Act.put, List.setIfInBounds_toArray, List.set_cons_zero, List.set_cons_succ]
                  refine wpAnyT_all (rs := [0]) (by kernel_rfl) (by simp) ?_
                  intro ix hix
                  simp only [List.mem_cons, List.not_mem_nil, or_false] at hix
                  subst hix
                  refine wpT_op (o := _) (by rfl) (fun K hK => ?_)
                  go_simp
                  have b42 := b40.alloc b40.size (.cells #[] 3)
                  have m43 : Mid ((wr.drew.alloc (.cells #[.int .i64 x] 3)).alloc (.cells #[] 3)) wr.heap.size 3 1 (.slice (some ⟨wr.heap.size + 1, 0, none⟩) 0 0) 0 [] := by
                    have h := Mid.empty (w := (wr.drew.alloc (.cells #[.int .i64 x] 3))) (base := wr.heap.size) (t := 3) b40.size
                    have e : (wr.drew.alloc (.cells #[.int .i64 x] 3)).heap.size = wr.heap.size + 1 := by simp
                    rw [e] at h; exact h
                  have hl44 : ((wr.drew.alloc (.cells #[.int .i64 x] 3)).alloc (.cells #[] 3)).cell? ⟨wr.heap.size, 0, none⟩ = some (.int .i64 x) := (World.cell?_alloc_lt _ _ _ (by simp)).trans hl41
                  refine hK _ _ (fun _ => trivial) ?_
                  clear hK K
                  try simp only [Act.put, List.setIfInBounds_toArray, List.set_cons_zero, List.set_cons_succ]
                  refine wpAnyT_all (rs := [4]) (by kernel_rfl) (by simp) ?_
                  intro ix hix
                  simp only [List.mem_cons, List.not_mem_nil, or_false] at hix
                  subst hix
                  refine wpT_op (o := _) (by rfl) (fun K hK => ?_)
                  refine step_append_src (by rfl) _ _ _ (by rfl) wr.heap.size 3 i0 _ 1 8 Try.underlying22 hi0 hz0 hz1 hz2 rfl (by omega) (.slice (some ⟨wr.heap.size + 1, 0, none⟩) 0 0) (0) ([]) (by rfl) m43 wr.heap.size _ _ _ (ks .i64 (O.take (cc))) (by rfl) (HA.out _ b42) (ks_one .i64 _) (by unfold maxLen; omega) (by omega) b42.size ?_
                  intro v45 wq46 hm47 hr48
                  have b49 := b42.grown hr48.grown b42.size (fun g hg => (m43.lt g hg).1)
                  have hl50 := ran_cell hr48 m43 hl44 (by simp [Value.ownBlock])
                  refine hK _ _ (fun _ => trivial) ?_
                  clear hK K
                  try simp only [Act.put, List.setIfInBounds_toArray, List.set_cons_zero, List.set_cons_succ]
                  refine wpAnyT_all (rs := [7]) (by kernel_rfl) (by simp) ?_
                  intro ix hix
                  simp only [List.mem_cons, List.not_mem_nil, or_false] at hix
                  subst hix
                  refine wpT_op (o := _) (by rfl) (fun K hK => ?_)
                  refine step_append_mid (by rfl) _ _ _ (by rfl) wr.heap.size 3 i0 _ 1 8 Try.underlying22 hi0 hz0 hz1 hz2 rfl (by omega) v45 (0 + cc) ([] ++ ks .i64 (O.take (cc))) (by rfl) hm47 ⟨wr.heap.size, 0, none⟩ 1 1 [.int .i64 x] (by rfl) (by rfl) (news_one hl50) (by simp [Value.oneCell']) (by unfold maxLen; omega) (by omega) b49.size ?_
                  intro v51 wq52 hm53 hr54
                  have b55 := b49.grown hr54.grown b49.size (fun g hg => (hm47.lt g hg).1)
                  refine hK _ _ (fun _ => trivial) ?_
                  clear hK K
                  try simp only [Act.put, List.setIfInBounds_toArray, List.set_cons_zero, List.set_cons_succ]
                  refine wpAnyT_all (rs := [11]) (by kernel_rfl) (by simp) ?_
                  intro ix hix
                  simp only [List.mem_cons, List.not_mem_nil, or_false] at hix
                  subst hix
                  refine wpT_op (o := _) (by rfl) (fun K hK => ?_)
                  refine step_append_src (by rfl) _ _ _ (by rfl) wr.heap.size 3 i0 _ 1 8 Try.underlying22 hi0 hz0 hz1 hz2 rfl (by omega) v51 (0 + cc + 1) ([] ++ ks .i64 (O.take (cc)) ++ [.int .i64 x]) (by rfl) hm53 wr.heap.size _ _ _ (ks .i64 (O.drop (cc))) (by rfl) (HBk.out _ b55) (ks_one .i64 _) (by unfold maxLen; omega) (by omega) b55.size ?_
                  intro v56 wq57 hm58 hr59
                  have b60 := b55.grown hr59.grown b55.size (fun g hg => (hm53.lt g hg).1)
                  refine hK _ _ (fun _ => trivial) ?_
                  clear hK K
                  try simp only [Act.put, List.setIfInBounds_toArray, List.set_cons_zero, List.set_cons_succ]
                  refine wpAnyT_all (rs := [12]) (by kernel_rfl) (by simp) ?_
                  intro ix hix
                  simp only [List.mem_cons, List.not_mem_nil, or_false] at hix
                  subst hix
                  refine wpT_op (o := _) (by rfl) (fun K hK => ?_)
                  try go_simp
                  refine hK _ _ (fun h => absurd h (by omega)) ?_
                  clear hK K
                  refine wpAnyT_done (by kernel_rfl) ?_ _
                  have HMz := Lib.hid hm58
                  have HBz := Lib.hid b60
                  clear hm58 b60
                  obtain ⟨Az, cz, ez, hmz⟩ := ins_mid HL.out (by omega) (by rw [Nat.sub_self]; exact HMz.out) hB HE.out
                  have HZ : Hid (SW l w _ (k + 1) (cc + 1) cz Az (insI O x)) := Lib.hid ⟨hmz, HNX.out.symm, after HW.out.below HBz.out⟩
                  clear hmz HMz
                  subst ez
                  go_wp2
                  go_roundw
                  case rel => exact ⟨k + 1, _, cz, Az, insI O x, rfl, by go_num, by omega, by omega, HZ⟩
                  case measure => simp only [intOf]; omega
            · cases Aq with
              | none => exact absurd (HNC.out rfl) (by omega)
              | some ad =>
                go_wp2
                have HA : Hid (∀ w', Below wr.heap.size wr w' → Reads w' wr.heap.size 1 (some ad) (m) (ks .i64 (O.take (m)))) := Lib.hid (fun w' hb => ((HR.out.below hb).take_s (k := m) (by omega)))
                have HBk : Hid (∀ w', Below wr.heap.size wr w' → Reads w' wr.heap.size 1 (some (ad.add m)) 0 (ks .i64 (O.drop (m)))) := Lib.hid (fun w' hb => by have := (HR.out.below hb).drop_s (k := m) (c := cc) (by omega) (by omega); rw [if_neg hcn, Nat.sub_self] at this; exact this)
                refine wp_region_T (fun _ => True) 12 (by kernel_rfl) ?_
                have hS : True := trivial
                refine wpAnyT_take (i := 1) (oi := _) (v := ?_) (by rfl) (by kernel_rfl) (by intro _ _ _ h; exact h) hS (Or.inl ⟨by rfl, ?_⟩) ?_
                rotate_left 1
                · intro w' hS'
                  go_simp
                  all_goals with_reducible rfl
                simp only [Act.put, List.setIfInBounds_toArray, List.set_cons_zero, List.set_cons_succ]
                refine wpAnyT_take (i := 2) (oi := _) (v := ?_) (by rfl) (by kernel_rfl) (by intro _ _ _ h; exact h) hS (Or.inl ⟨by rfl, ?_⟩) ?_
                rotate_left 1
                · intro w' hS'
                  go_simp
                  all_goals with_reducible rfl
                simp only [Act.put, List.setIfInBounds_toArray, List.set_cons_zero, List.set_cons_succ]
                refine wpAnyT_take (i := 3) (oi := _) (v := ?_) (by rfl) (by kernel_rfl) (by intro _ _ _ h; exact h) hS (Or.inl ⟨by rfl, ?_⟩) ?_
                rotate_left 1
                · intro w' hS'
                  go_simp
                  all_goals with_reducible rfl
                simp only [Act.put, List.setIfInBounds_toArray, List.set_cons_zero, List.set_cons_succ]
                refine wpAnyT_take (i := 5) (oi := _) (v := ?_) (by rfl) (by kernel_rfl) (by intro _ _ _ h; exact h) hS (Or.inl ⟨by rfl, ?_⟩) ?_
                rotate_left 1
                · intro w' hS'
                  go_simp
                  all_goals with_reducible rfl
                simp only [Act.put, List.setIfInBounds_toArray, List.set_cons_zero, List.set_cons_succ]
                refine wpAnyT_take (i := 8) (oi := _) (v := ?_) (by rfl) (by kernel_rfl) (by intro _ _ _ h; exact h) hS (Or.inl ⟨by rfl, ?_⟩) ?_
                rotate_left 1
                · intro w' hS'
                  go_simp
                  all_goals with_reducible rfl
                simp only [Act.put, List.setIfInBounds_toArray, List.set_cons_zero, List.set_cons_succ]
                refine wpAnyT_take (i := 9) (oi := _) (v := ?_) (by rfl) (by kernel_rfl) (by intro _ _ _ h; exact h) hS (Or.inl ⟨by rfl, ?_⟩) ?_
                rotate_left 1
                · intro w' hS'
                  go_simp
                  all_goals with_reducible rfl
                simp only [Act.put, List.setIfInBounds_toArray, List.set_cons_zero, List.set_cons_succ]
                refine wpAnyT_take (i := 10) (oi := _) (v := ?_) (by rfl) (by kernel_rfl) (by intro _ _ _ h; exact h) hS (Or.inl ⟨by rfl, ?_⟩) ?_
                rotate_left 1
                · intro w' hS'
                  go_simp
                  all_goals with_reducible rfl
                simp only [Act.put, List.setIfInBounds_toArray, List.set_cons_zero, List.set_cons_succ]
                have b0 : Below wr.heap.size wr wr.drew := (Below.refl _ _).drew
                refine wpAnyT_all (rs := [0, 6]) (by kernel_rfl) (by simp) ?_
                intro ix hix
                simp only [List.mem_cons, List.not_mem_nil, or_false] at hix
                rcases hix with rfl | rfl
                · refine wpT_op (o := _) (by rfl) (fun K hK => ?_)
                  go_simp
                  have b1 := b0.alloc b0.size (.cells #[] 3)
                  have m2 : Mid (wr.drew.alloc (.cells #[] 3)) wr.heap.size 3 1 (.slice (some ⟨wr.heap.size, 0, none⟩) 0 0) 0 [] := by
                    have h := Mid.empty (w := wr.drew) (base := wr.heap.size) (t := 3) b0.size
                    have e : wr.drew.heap.size = wr.heap.size := by simp
                    rw [e] at h; exact h
                  refine hK _ _ (fun _ => trivial) ?_
                  clear hK K
                  try simp only [Act.put, List.setIfInBounds_toArray, List.set_cons_zero, List.set_cons_succ]
                  refine wpAnyT_all (rs := [4, 6]) (by kernel_rfl) (by simp) ?_
                  intro ix hix
                  simp only [List.mem_cons, List.not_mem_nil, or_false] at hix
                  rcases hix with rfl | rfl
                  · refine wpT_op (o := _) (by rfl) (fun K hK => ?_)
                    refine step_append_src (by rfl) _ _ _ (by rfl) wr.heap.size 3 i0 _ 1 8 Try.underlying22 hi0 hz0 hz1 hz2 rfl (by omega) (.slice (some ⟨wr.heap.size, 0, none⟩) 0 0) (0) ([]) (by rfl) m2 wr.heap.size _ _ _ (ks .i64 (O.take (m))) (by rfl) (HA.out _ b1) (ks_one .i64 _) (by unfold maxLen; omega) (by omega) b1.size ?_
                    intro v3 wq4 hm5 hr6
                    have b7 := b1.grown hr6.grown b1.size (fun g hg => (m2.lt g hg).1)
                    refine hK _ _ (fun _ => trivial) ?_
                    clear hK K
                    try simp only [Act.put, List.setIfInBounds_toArray, List.set_cons_zero, List.set_cons_succ]
                    refine wpAnyT_all (rs := [6]) (by kernel_rfl) (by simp) ?_
                    intro ix hix
                    simp only [List.mem_cons, List.not_mem_nil, or_false] at hix
                    subst hix
                    refine wpT_op (o := _) (by rfl) (fun K hK => ?_)
                    go_simp
                    have b8 := b7.alloc b7.size (.cells #[.int .i64 x] 3)
                    have hl9 : (wq4.alloc (.cells #[.int .i64 x] 3)).cell? ⟨wq4.heap.size, 0, none⟩ = some (.int .i64 x) := World.cell?_alloc_at _ _ _ _ (by simp)
                    have m10 := Mid.alloc_ hm5 (.cells #[.int .i64 x] 3)
                    refine hK _ _ (fun _ => trivial) ?_
                    clear hK K
                    try simp only [Act.put, List.setIfInBounds_toArray, List.set_cons_zero, List.set_cons_succ]
                    refine wpAnyT_all (rs := [7]) (by kernel_rfl) (by simp) ?_
                    intro ix hix
                    simp only [List.mem_cons, List.not_mem_nil, or_false] at hix
                    subst hix
                    refine wpT_op (o := _) (by rfl) (fun K hK => ?_)
                    refine step_append_mid (by rfl) _ _ _ (by rfl) wr.heap.size 3 i0 _ 1 8 Try.underlying22 hi0 hz0 hz1 hz2 rfl (by omega) v3 (0 + m) ([] ++ ks .i64 (O.take (m))) (by rfl) m10 ⟨wq4.heap.size, 0, none⟩ 1 1 [.int .i64 x] (by rfl) (by rfl) (news_one hl9) (by simp [Value.oneCell']) (by unfold maxLen; omega) (by omega) b8.size ?_
                    intro v11 wq12 hm13 hr14
                    have b15 := b8.grown hr14.grown b8.size (fun g hg => (m10.lt g hg).1)
                    refine hK _ _ (fun _ => trivial) ?_
                    clear hK K
                    try simp only [Act.put, List.setIfInBounds_toArray, List.set_cons_zero, List.set_cons_succ]
                    refine wpAnyT_all (rs := [11]) (by kernel_rfl) (by simp) ?_
                    intro ix hix
                    simp only [List.mem_cons, List.not_mem_nil, or_false] at hix
                    subst hix
                    refine wpT_op (o := _) (by rfl) (fun K hK => ?_)
                    refine step_append_src (by rfl) _ _ _ (by rfl) wr.heap.size 3 i0 _ 1 8 Try.underlying22 hi0 hz0 hz1 hz2 rfl (by omega) v11 (0 + m + 1) ([] ++ ks .i64 (O.take (m)) ++ [.int .i64 x]) (by rfl) hm13 wr.heap.size _ _ _ (ks .i64 (O.drop (m))) (by rfl) (HBk.out _ b15) (ks_one .i64 _) (by unfold maxLen; omega) (by omega) b15.size ?_
                    intro v16 wq17 hm18 hr19
                    have b20 := b15.grown hr19.grown b15.size (fun g hg => (hm13.lt g hg).1)
                    refine hK _ _ (fun _ => trivial) ?_
                    clear hK K
                    try simp only [Act.put, List.setIfInBounds_toArray, List.set_cons_zero, List.set_cons_succ]
                    refine wpAnyT_all (rs := [12]) (by kernel_rfl) (by simp) ?_
                    intro ix hix
                    simp only [List.mem_cons, List.not_mem_nil, or_false] at hix
                    subst hix
                    refine wpT_op (o := _) (by rfl) (fun K hK => ?_)
                    try go_simp
                    refine hK _ _ (fun h => absurd h (by omega)) ?_
                    clear hK K
                    refine wpAnyT_done (by kernel_rfl) ?_ _
                    have HMz := Lib.hid hm18
                    have HBz := Lib.hid b20
                    clear hm18 b20
                    obtain ⟨Az, cz, ez, hmz⟩ := ins_mid HL.out (by omega) (by rw [Nat.sub_self]; exact HMz.out) hB HE.out
                    have HZ : Hid (SW l w _ (k + 1) (m + 1) cz Az (insI O x)) := Lib.hid ⟨hmz, HNX.out.symm, after HW.out.below HBz.out⟩
                    clear hmz HMz
                    subst ez
                    go_wp2
                    go_roundw
                    case rel => exact ⟨k + 1, _, cz, Az, insI O x, rfl, by go_num, by omega, by omega, HZ⟩
                    case measure => simp only [intOf]; omega
                  · refine wpT_op (o := _) (by rfl) (fun K hK => ?_)
                    go_simp
                    have b21 := b1.alloc b1.size (.cells #[.int .i64 x] 3)
                    have hl22 : ((wr.drew.alloc (.cells #[] 3)).alloc (.cells #[.int .i64 x] 3)).cell? ⟨wr.heap.size + 1, 0, none⟩ = some (.int .i64 x) := World.cell?_alloc_at _ _ _ _ (by simp)
                    have m23 := Mid.alloc_ m2 (.cells #[.int .i64 x] 3)
                    refine hK _ _ (fun _ => trivial) ?_
                    clear hK K
                    try simp only [Act.put, List.setIfInBounds_toArray, List.set_cons_zero, List.set_cons_succ]
                    refine wpAnyT_all (rs := [4]) (by kernel_rfl) (by simp) ?_
                    intro ix hix
                    simp only [List.mem_cons, List.not_mem_nil, or_false] at hix
                    subst hix
                    refine wpT_op (o := _) (by rfl) (fun K hK => ?_)
                    refine step_append_src (by rfl) _ _ _ (by rfl) wr.heap.size 3 i0 _ 1 8 Try.underlying22 hi0 hz0 hz1 hz2 rfl (by omega) (.slice (some ⟨wr.heap.size, 0, none⟩) 0 0) (0) ([]) (by rfl) m23 wr.heap.size _ _ _ (ks .i64 (O.take (m))) (by rfl) (HA.out _ b21) (ks_one .i64 _) (by unfold maxLen; omega) (by omega) b21.size ?_
                    intro v24 wq25 hm26 hr27
                    have b28 := b21.grown hr27.grown b21.size (fun g hg => (m23.lt g hg).1)
                    have hl29 := ran_cell hr27 m23 hl22 (by simp [Value.ownBlock])
                    refine hK _ _ (fun _ => trivial) ?_
                    clear hK K
                    try simp only [Act.put, List.setIfInBounds_toArray, List.set_cons_zero, List.set_cons_succ]
                    refine wpAnyT_all (rs := [7]) (by kernel_rfl) (by simp) ?_
                    intro ix hix
                    simp only [List.mem_cons, List.not_mem_nil, or_false] at hix
                    subst hix
                    refine wpT_op (o := _) (by rfl) (fun K hK => ?_)
                    refine step_append_mid (by rfl) _ _ _ (by rfl) wr.heap.size 3 i0 _ 1 8 Try.underlying22 hi0 hz0 hz1 hz2 rfl (by omega) v24 (0 + m) ([] ++ ks .i64 (O.take (m))) (by rfl) hm26 ⟨wr.heap.size + 1, 0, none⟩ 1 1 [.int .i64 x] (by rfl) (by rfl) (news_one hl29) (by simp [Value.oneCell']) (by unfold maxLen; omega) (by omega) b28.size ?_
                    intro v30 wq31 hm32 hr33
                    have b34 := b28.grown hr33.grown b28.size (fun g hg => (hm26.lt g hg).1)
                    refine hK _ _ (fun _ => trivial) ?_
                    clear hK K
                    try simp only [Act.put, List.setIfInBounds_toArray, List.set_cons_zero, List.set_cons_succ]
                    refine wpAnyT_all (rs := [11]) (by kernel_rfl) (by simp) ?_
                    intro ix hix
                    simp only [List.mem_cons, List.not_mem_nil, or_false] at hix
                    subst hix
                    refine wpT_op (o := _) (by rfl) (fun K hK => ?_)
                    refine step_append_src (by rfl) _ _ _ (by rfl) wr.heap.size 3 i0 _ 1 8 Try.underlying22 hi0 hz0 hz1 hz2 rfl (by omega) v30 (0 + m + 1) ([] ++ ks .i64 (O.take (m)) ++ [.int .i64 x]) (by rfl) hm32 wr.heap.size _ _ _ (ks .i64 (O.drop (m))) (by rfl) (HBk.out _ b34) (ks_one .i64 _) (by unfold maxLen; omega) (by omega) b34.size ?_
                    intro v35 wq36 hm37 hr38
                    have b39 := b34.grown hr38.grown b34.size (fun g hg => (hm32.lt g hg).1)
                    refine hK _ _ (fun _ => trivial) ?_
                    clear hK K
                    try simp only [Act.put, List.setIfInBounds_toArray, List.set_cons_zero, List.set_cons_succ]
                    refine wpAnyT_all (rs := [12]) (by kernel_rfl) (by simp) ?_
                    intro ix hix
                    simp only [List.mem_cons, List.not_mem_nil, or_false] at hix
                    subst hix
                    refine wpT_op (o := _) (by rfl) (fun K hK => ?_)
                    try go_simp
                    refine hK _ _ (fun h => absurd h (by omega)) ?_
                    clear hK K
                    refine wpAnyT_done (by kernel_rfl) ?_ _
                    have HMz := Lib.hid hm37
                    have HBz := Lib.hid b39
                    clear hm37 b39
                    obtain ⟨Az, cz, ez, hmz⟩ := ins_mid HL.out (by omega) (by rw [Nat.sub_self]; exact HMz.out) hB HE.out
                    have HZ : Hid (SW l w _ (k + 1) (m + 1) cz Az (insI O x)) := Lib.hid ⟨hmz, HNX.out.symm, after HW.out.below HBz.out⟩
                    clear hmz HMz
                    subst ez
                    go_wp2
                    go_roundw
                    case rel => exact ⟨k + 1, _, cz, Az, insI O x, rfl, by go_num, by omega, by omega, HZ⟩
                    case measure => simp only [intOf]; omega
                · refine wpT_op (o := _) (by rfl) (fun K hK => ?_)
                  go_simp
                  have b40 := b0.alloc b0.size (.cells #[.int .i64 x] 3)
                  have hl41 : (wr.drew.alloc (.cells #[.int .i64 x] 3)).cell? ⟨wr.heap.size, 0, none⟩ = some (.int .i64 x) := World.cell?_alloc_at _ _ _ _ (by simp)
                  refine hK _ _ (fun _ => trivial) ?_
                  clear hK K
                  try simp only [Act.put, List.setIfInBounds_toArray, List.set_cons_zero, List.set_cons_succ]
                  refine wpAnyT_all (rs := [0]) (by kernel_rfl) (by simp) ?_
                  intro ix hix
                  simp only [List.mem_cons, List.not_mem_nil, or_false] at hix
                  subst hix
                  refine wpT_op (o := _) (by rfl) (fun K hK => ?_)
                  go_simp
                  have b42 := b40.alloc b40.size (.cells #[] 3)
                  have m43 : Mid ((wr.drew.alloc (.cells #[.int .i64 x] 3)).alloc (.cells #[] 3)) wr.heap.size 3 1 (.slice (some ⟨wr.heap.size + 1, 0, none⟩) 0 0) 0 [] := by
                    have h := Mid.empty (w := (wr.drew.alloc (.cells #[.int .i64 x] 3))) (base := wr.heap.size) (t := 3) b40.size
                    have e : (wr.drew.alloc (.cells #[.int .i64 x] 3)).heap.size = wr.heap.size + 1 := by simp
                    rw [e] at h; exact h
                  have hl44 : ((wr.drew.alloc (.cells #[.int .i64 x] 3)).alloc (.cells #[] 3)).cell? ⟨wr.heap.size, 0, none⟩ = some (.int .i64 x) := (World.cell?_alloc_lt _ _ _ (by simp)).trans hl41
                  refine hK _ _ (fun _ => trivial) ?_
                  clear hK K
                  try simp only [Act.put, List.setIfInBounds_toArray, List.set_cons_zero, List.set_cons_succ]
                  refine wpAnyT_all (rs := [4]) (by kernel_rfl) (by simp) ?_
                  intro ix hix
                  simp only [List.mem_cons, List.not_mem_nil, or_false] at hix
                  subst hix
                  refine wpT_op (o := _) (by rfl) (fun K hK => ?_)
                  refine step_append_src (by rfl) _ _ _ (by rfl) wr.heap.size 3 i0 _ 1 8 Try.underlying22 hi0 hz0 hz1 hz2 rfl (by omega) (.slice (some ⟨wr.heap.size + 1, 0, none⟩) 0 0) (0) ([]) (by rfl) m43 wr.heap.size _ _ _ (ks .i64 (O.take (m))) (by rfl) (HA.out _ b42) (ks_one .i64 _) (by unfold maxLen; omega) (by omega) b42.size ?_
                  intro v45 wq46 hm47 hr48
                  have b49 := b42.grown hr48.grown b42.size (fun g hg => (m43.lt g hg).1)
                  have hl50 := ran_cell hr48 m43 hl44 (by simp [Value.ownBlock])
                  refine hK _ _ (fun _ => trivial) ?_
                  clear hK K
                  try simp only [Act.put, List.setIfInBounds_toArray, List.set_cons_zero, List.set_cons_succ]
                  refine wpAnyT_all (rs := [7]) (by kernel_rfl) (by simp) ?_
                  intro ix hix
                  simp only [List.mem_cons, List.not_mem_nil, or_false] at hix
                  subst hix
                  refine wpT_op (o := _) (by rfl) (fun K hK => ?_)
                  refine step_append_mid (by rfl) _ _ _ (by rfl) wr.heap.size 3 i0 _ 1 8 Try.underlying22 hi0 hz0 hz1 hz2 rfl (by omega) v45 (0 + m) ([] ++ ks .i64 (O.take (m))) (by rfl) hm47 ⟨wr.heap.size, 0, none⟩ 1 1 [.int .i64 x] (by rfl) (by rfl) (news_one hl50) (by simp [Value.oneCell']) (by unfold maxLen; omega) (by omega) b49.size ?_
                  intro v51 wq52 hm53 hr54
                  have b55 := b49.grown hr54.grown b49.size (fun g hg => (hm47.lt g hg).1)
                  refine hK _ _ (fun _ => trivial) ?_
                  clear hK K
                  try simp only [Act.put, List.setIfInBounds_toArray, List.set_cons_zero, List.set_cons_succ]
                  refine wpAnyT_all (rs := [11]) (by kernel_rfl) (by simp) ?_
                  intro ix hix
                  simp only [List.mem_cons, List.not_mem_nil, or_false] at hix
                  subst hix
                  refine wpT_op (o := _) (by rfl) (fun K hK => ?_)
                  refine step_append_src (by rfl) _ _ _ (by rfl) wr.heap.size 3 i0 _ 1 8 Try.underlying22 hi0 hz0 hz1 hz2 rfl (by omega) v51 (0 + m + 1) ([] ++ ks .i64 (O.take (m)) ++ [.int .i64 x]) (by rfl) hm53 wr.heap.size _ _ _ (ks .i64 (O.drop (m))) (by rfl) (HBk.out _ b55) (ks_one .i64 _) (by unfold maxLen; omega) (by omega) b55.size ?_
                  intro v56 wq57 hm58 hr59
                  have b60 := b55.grown hr59.grown b55.size (fun g hg => (hm53.lt g hg).1)
                  refine hK _ _ (fun _ => trivial) ?_
                  clear hK K
                  try simp only [Act.put, List.setIfInBounds_toArray, List.set_cons_zero, List.set_cons_succ]
                  refine wpAnyT_all (rs := [12]) (by kernel_rfl) (by simp) ?_
                  intro ix hix
                  simp only [List.mem_cons, List.not_mem_nil, or_false] at hix
                  subst hix
                  refine wpT_op (o := _) (by rfl) (fun K hK => ?_)
                  try go_simp
                  refine hK _ _ (fun h => absurd h (by omega)) ?_
                  clear hK K
                  refine wpAnyT_done (by kernel_rfl) ?_ _
                  have HMz := Lib.hid hm58
                  have HBz := Lib.hid b60
                  clear hm58 b60
                  obtain ⟨Az, cz, ez, hmz⟩ := ins_mid HL.out (by omega) (by rw [Nat.sub_self]; exact HMz.out) hB HE.out
                  have HZ : Hid (SW l w _ (k + 1) (m + 1) cz Az (insI O x)) := Lib.hid ⟨hmz, HNX.out.symm, after HW.out.below HBz.out⟩
                  clear hmz HMz
                  subst ez
                  go_wp2
                  go_roundw
                  case rel => exact ⟨k + 1, _, cz, Az, insI O x, rfl, by go_num, by omega, by omega, HZ⟩
                  case measure => simp only [intOf]; omega
    · obtain rfl : k = n := by omega
      have HD : Hid (O = foldI [] l) := Lib.hid (by rw [HW.out.eq, List.take_of_length_le (by rw [HLN.out]; exact Nat.le_refl _)])
      go_wp2
      go_ret
      have hl : (foldI [] l).length = m := by rw [← HD.out]; exact HW.out.row.si.len
      exact ⟨_, rfl, by rw [hl, ← HD.out]; exact HW.out.row, HW.out.below⟩
end Go.Proofs.Ythgjpdbajmfclaa
