/-
  The document's insert: a text into rising ones, once; conditions: lengths.
-/
import Derived.Test.YtoffibcplbfokaaTkJ
import Derived.Test.YtoffibcplbfokaaAnyT
namespace Go.Proofs.Ytoffibcplbfokaa
open Go.RowKit Go.WideShapes Go.ChangeShapes
set_option linter.all false
def insL : List (List UInt8) → List UInt8 → List (List UInt8)
  | [], x => [x]
  | y :: r, x => if y < x then y :: insL r x else if y = x then y :: r else x :: y :: r
theorem insL_mem : ∀ (l : List (List UInt8)) (x t : List UInt8), t ∈ insL l x ↔ t = x ∨ t ∈ l
  | [], x, t => by simp [insL]
  | y :: r, x, t => by
    unfold insL
    split
    · rw [List.mem_cons, insL_mem r x t, List.mem_cons]
      constructor
      · rintro (h | h | h) <;> simp [h]
      · rintro (h | h | h) <;> simp [h]
    · split
      · rename_i h; subst h; simp
      · simp
theorem insL_rises : ∀ (l : List (List UInt8)) (x : List UInt8), Rises l → Rises (insL l x)
  | [], x, _ => by simp [insL, Rises]
  | y :: r, x, h => by
    unfold Rises at h
    rw [List.pairwise_cons] at h
    unfold insL
    split
    · rename_i hlt
      have := insL_rises r x h.2
      unfold Rises at this ⊢
      rw [List.pairwise_cons]
      refine ⟨fun t ht => ?_, this⟩
      rcases (insL_mem r x t).1 ht with rfl | h1
      · exact hlt
      · exact h.1 t h1
    · split
      · unfold Rises; rw [List.pairwise_cons]; exact h
      · rename_i h1 h2
        have hxy : x < y := by
          rcases List.le_total x y with h3 | h3
          · exact lt_of_le_ne h3 (fun e => h2 e.symm)
          · exact absurd (lt_of_le_ne h3 h2) h1
        unfold Rises
        rw [List.pairwise_cons, List.pairwise_cons]
        refine ⟨fun t ht => ?_, h⟩
        rw [List.mem_cons] at ht
        rcases ht with rfl | ht
        · exact hxy
        · exact List.lt_trans hxy (h.1 t ht)
theorem insL_at : ∀ (l : List (List UInt8)) (x : List UInt8) (k : Nat), k ≤ l.length → (∀ y ∈ l.take k, y < x) → (k < l.length → ¬ l.getD k [] < x) → insL l x = if k < l.length ∧ l.getD k [] = x then l else l.take k ++ x :: l.drop k
  | [], x, k, hk, _, _ => by simp [insL]
  | y :: r, x, 0, _, _, h2 => by
    have h2' := h2 (by simp)
    simp only [List.getD_cons_zero] at h2' ⊢
    unfold insL
    rw [if_neg h2']
    by_cases e : y = x
    · rw [if_pos e, if_pos ⟨by simp, e⟩]
    · rw [if_neg e, if_neg (fun h => e h.2)]; rfl
  | y :: r, x, k + 1, hk, h1, h2 => by
    have hy : y < x := h1 y (by simp)
    have ih := insL_at r x k (by simpa using hk) (fun t ht => h1 t (by simp [ht])) (fun h => by have := h2 (by simpa using h); simpa using this)
    unfold insL
    rw [if_pos hy, ih]
    simp only [List.length_cons, List.getD_cons_succ, Nat.add_lt_add_iff_right]
    split
    · rfl
    · rfl
theorem insL_len (l : List (List UInt8)) (x : List UInt8) : (insL l x).length ≤ l.length + 1 := by
  induction l with
  | nil => simp [insL]
  | cons y r ih =>
    unfold insL
    split
    · simp; omega
    · split <;> simp
theorem blt_eq (s t : List UInt8) : Op.bytesLess (bt s).toList (bt t).toList = decide (s < t) := by rw [bt_toList, bt_toList, Go.Proofs.bytesLess_eq]
theorem Reads.take_s {w : World} {B n k : Nat} {A : Option Addr} {X : List (List UInt8)} (h : Reads w B 1 A n (strs X)) (hk : k ≤ n) : Reads w B 1 A k (strs (X.take k)) := by
  have hl := h.sl
  refine ⟨by rw [strs_len, List.length_take]; omega, fun hk0 => ?_⟩
  obtain ⟨ad, e, hb, hc⟩ := h.2 (by omega)
  refine ⟨ad, e, hb, fun j u hu => hc j u ?_⟩
  unfold strs at hu ⊢
  rw [List.getElem?_map, List.getElem?_take] at hu
  split at hu
  · rw [List.getElem?_map]; exact hu
  · cases hu
theorem Reads.drop_s {w : World} {B n k c : Nat} {A : Option Addr} {X : List (List UInt8)} (h : Reads w B 1 A n (strs X)) (hk : k ≤ n) (hc : n ≤ c) : Reads w B 1 (if c = k then A else A.map (·.add k)) (n - k) (strs (X.drop k)) := by
  have := h.cut (k := k) (cap := c) hk hc
  rw [Nat.mul_one] at this
  unfold strs at this ⊢
  rwa [← List.map_drop] at this
theorem Mid.alloc_ {w : World} {N n : Nat} {t : TypeId} {v : Value} {xs : List Value} (h : Mid w N t 1 v n xs) (o : Obj) : Mid (w.alloc o) N t 1 v n xs := h.same fun g hg => Below.heap_alloc _ _ g (h.lt g hg).2
theorem news_one {w : World} {g : Nat} {u : Value} (h : w.cell? ⟨g, 0, none⟩ = some u) : ∀ j v, [u][j]? = some v → w.cell? ((⟨g, 0, none⟩ : Addr).add j) = some v := by
  intro j v hj
  cases j with
  | zero => simp at hj; subst hj; simpa [Addr.add] using h
  | succ j => simp at hj
theorem ran_cell {w w' : World} {N n g o : Nat} {t : TypeId} {v v' u : Value} {xs : List Value} (h : Ran v v' w w') (hm : Mid w N t 1 v n xs) (hc : w.cell? ⟨g, o, none⟩ = some u) (hne : v.ownBlock ≠ some g) : w'.cell? ⟨g, o, none⟩ = some u := by
  have hg : g < w.heap.size := World.block_lt_of_cell? _ _ hc
  exact (World.cell?_of_block (h.grown.block g hg (fun e => hne e.symm))).trans hc
/-- A list that can be read, in a slice whose room is told. -/
def InsPost (L : List (List UInt8)) (w : World) (e : Ending) (w' : World) : Prop :=
  ∃ A n c, e = .returned (.slice A n c) ∧ n = L.length ∧ n ≤ c ∧ c ≤ maxLen ∧ (A = none → c = 0) ∧ Reads w' w'.heap.size 1 A n (strs L) ∧ Below w.heap.size w w'
theorem Mid.nocap {w : World} {N n c : Nat} {t : TypeId} {A : Option Addr} {xs : List Value} (h : Mid w N t 1 (.slice A n c) n xs) : A = none → c = 0 := by
  rintro rfl
  rcases h.2 with ⟨h', h0⟩ | ⟨g, off, cap, cur, h', _⟩
  · simp only [Value.slice.injEq] at h'; exact h'.2.2
  · simp at h'
theorem Mid.room {w : World} {N n c : Nat} {t : TypeId} {A : Option Addr} {xs : List Value} (h : Mid w N t 1 (.slice A n c) n xs) : n ≤ c ∧ c ≤ maxLen := by
  rcases h.2 with ⟨h', h0⟩ | ⟨g, off, cap, cur, h', _, _, h1, h2, _⟩
  · simp only [Value.slice.injEq] at h'
    obtain ⟨_, _, rfl⟩ := h'
    exact ⟨by omega, by unfold maxLen; omega⟩
  · simp only [Value.slice.injEq, true_and] at h'
    obtain ⟨rfl, rfl⟩ := h'
    exact ⟨h1, h2⟩
theorem ins_post {L : List (List UInt8)} {x : List UInt8} {w w' : World} {N k n : Nat} {v : Value} (hn : n = L.length) (hk : k ≤ n) (h : Mid w' N 9 1 v (0 + k + 1 + (n - k)) ([] ++ strs (L.take k) ++ [.string (bt x)] ++ strs (L.drop k))) (hb : Below w.heap.size w w') (hi : insL L x = L.take k ++ x :: L.drop k) : InsPost (insL L x) w (.returned v) w' := by
  obtain ⟨A, c, rfl⟩ := h.form
  have e1 : 0 + k + 1 + (n - k) = (insL L x).length := by rw [hi, List.length_append, List.length_cons, List.length_take, List.length_drop]; omega
  have e2 : [] ++ strs (L.take k) ++ [Value.string (bt x)] ++ strs (L.drop k) = strs (insL L x) := by rw [hi]; unfold strs; simp
  rw [e2] at h
  rw [e1] at h ⊢
  exact ⟨A, _, c, rfl, rfl, h.room.1, h.room.2, h.nocap, h.reads, hb⟩
set_option maxRecDepth 100000 in
set_option maxHeartbeats 1600000 in
theorem insert_any (A : Option Addr) (n c : Nat) (L : List (List UInt8)) (x : List UInt8) (w : World) (hr : Reads w w.heap.size 1 A n (strs L)) (hn : n ≤ 2000) (hc : n ≤ c) (hc9 : c ≤ maxLen) (hA : A = none → c = 0) :
    Calls Try.prog 19 #[.slice A n c, .string (bt x)] w (InsPost (insL L x) w) := by
  obtain ⟨i0, hi0, hz0, hz1, hz2⟩ := info_parts infoS
  have HL : Hid (n = L.length) := Lib.hid hr.sl.symm
  have HR := Lib.hid hr
  clear hr
  have HC9 := Lib.hid hc9
  have HA0 := Lib.hid hA
  clear hA
  go_enter Try.func19, Try.ntmps19
  go_wp2
  go_loop [5] (fun j => ∃ i : Nat, i ≤ n ∧ j = .int .i64 i ∧ Hid (∀ y ∈ L.take i, y < x)) (fun j => n - (intOf j).toNat)
  case atStart => exact ⟨0, by omega, rfl, Lib.hid (by simp)⟩
  case round =>
    obtain ⟨i, hi, rfl, HI⟩ := hrel
    by_cases hlt : i < n
    · obtain ⟨ad, rfl, h1⟩ := HR.out.sat hlt
      have hlL : i < L.length := by rw [← HL.out]; exact hlt
      obtain ⟨y, hy⟩ : ∃ y, y = L.getD i [] := ⟨_, rfl⟩
      rw [← hy] at h1
      have HY := Lib.hid hy
      by_cases hyx : y < x
      · have hb : Op.bytesLess (bt y).toList (bt x).toList = true := by rw [blt_eq]; exact decide_eq_true hyx
        have HN : Hid (∀ y ∈ L.take (i + 1), y < x) := Lib.hid (by
          rw [take_snoc hlL, ← hy]
          intro z hz
          rw [List.mem_append, List.mem_singleton] at hz
          rcases hz with hz | rfl
          · exact HI.out z hz
          · exact hyx)
        clear hy hlL hyx
        go_wp2
        go_round
        case rel => exact ⟨i + 1, by omega, by go_num, HN⟩
        case measure => simp only [intOf]; omega
      · have hb : Op.bytesLess (bt y).toList (bt x).toList = false := by rw [blt_eq]; exact decide_eq_false hyx
        have HAT := Lib.hid (insL_at L x i (Nat.le_of_lt hlL) HI.out (fun _ => by rw [← hy]; exact hyx))
        by_cases hye : y = x
        · have hq : ((bt y).toList == (bt x).toList) = true := by rw [hye]; simp
          have HE : Hid (insL L x = L) := Lib.hid (by rw [HAT.out, if_pos ⟨hlL, by rw [← hy]; exact hye⟩])
          clear hy hlL hyx hye
          go_wp2
          go_ret
          exact ⟨_, _, _, rfl, by rw [HE.out]; exact HL.out, hc, HC9.out, HA0.out, by rw [HE.out]; exact HR.out, Below.refl _ _⟩
        · have hq : ((bt y).toList == (bt x).toList) = false := by rw [bt_toList, bt_toList]; simpa using hye
          have HE : Hid (insL L x = L.take i ++ x :: L.drop i) := Lib.hid (by rw [HAT.out, if_neg (fun h => hye (by rw [hy]; exact h.2))])
          clear hy hlL hyx hye
          go_wp2
          have hci : ¬ (c = i) := by omega
          have g1 : (i : Int) ≤ n := by omega
          have g2 : (i : Int) ≤ c := by omega
          have g3 : (0 : Int) ≤ i := by omega
          have g4 : (n : Int) ≤ c := by omega
          have HA : Hid (∀ w', Below w.heap.size w w' → Reads w' w.heap.size 1 (some ad) (i) (strs (L.take (i)))) := Lib.hid (fun w' hb => ((HR.out.below hb).take_s (k := i) (by omega)))
          have HBk : Hid (∀ w', Below w.heap.size w w' → Reads w' w.heap.size 1 (some (ad.add i)) (n - i) (strs (L.drop (i)))) := Lib.hid (fun w' hb => by have := (HR.out.below hb).drop_s (k := i) (c := c) (by omega) (by omega); rw [if_neg hci] at this; exact this)
          refine wp_region_T (fun _ => True) 12 (by kernel_rfl) ?_
          have hS : True := trivial
          refine wpAnyT_take (i := 1) (oi := _) (v := ?_) (by rfl) (by kernel_rfl) (by intro _ _ _ h; exact h) hS (Or.inl ⟨by rfl, ?_⟩) ?_
          rotate_left 1
          · intro w' hS'
            go_simp
            all_goals with_reducible rfl
          simp only [Act.put, List.setIfInBounds_toArray, List.set_cons_zero, List.set_cons_succ]
          refine wpAnyT_take (i := 2) (oi := _) (v := ?_) (by rfl) (by kernel_rfl) (by intro _ _ _ h; exact h) hS (Or.inl ⟨by rfl, ?_⟩) ?_
          rotate_left 1
          · intro w' hS'
            go_simp
            all_goals with_reducible rfl
          simp only [Act.put, List.setIfInBounds_toArray, List.set_cons_zero, List.set_cons_succ]
          refine wpAnyT_take (i := 3) (oi := _) (v := ?_) (by rfl) (by kernel_rfl) (by intro _ _ _ h; exact h) hS (Or.inl ⟨by rfl, ?_⟩) ?_
          rotate_left 1
          · intro w' hS'
            go_simp
            all_goals with_reducible rfl
          simp only [Act.put, List.setIfInBounds_toArray, List.set_cons_zero, List.set_cons_succ]
          refine wpAnyT_take (i := 5) (oi := _) (v := ?_) (by rfl) (by kernel_rfl) (by intro _ _ _ h; exact h) hS (Or.inl ⟨by rfl, ?_⟩) ?_
          rotate_left 1
          · intro w' hS'
            go_simp
            all_goals with_reducible rfl
          simp only [Act.put, List.setIfInBounds_toArray, List.set_cons_zero, List.set_cons_succ]
          refine wpAnyT_take (i := 8) (oi := _) (v := ?_) (by rfl) (by kernel_rfl) (by intro _ _ _ h; exact h) hS (Or.inl ⟨by rfl, ?_⟩) ?_
          rotate_left 1
          · intro w' hS'
            go_simp
            all_goals with_reducible rfl
          simp only [Act.put, List.setIfInBounds_toArray, List.set_cons_zero, List.set_cons_succ]
          refine wpAnyT_take (i := 9) (oi := _) (v := ?_) (by rfl) (by kernel_rfl) (by intro _ _ _ h; exact h) hS (Or.inl ⟨by rfl, ?_⟩) ?_
          rotate_left 1
          · intro w' hS'
            go_simp
            all_goals with_reducible rfl
          simp only [Act.put, List.setIfInBounds_toArray, List.set_cons_zero, List.set_cons_succ]
          refine wpAnyT_take (i := 10) (oi := _) (v := ?_) (by rfl) (by kernel_rfl) (by intro _ _ _ h; exact h) hS (Or.inl ⟨by rfl, ?_⟩) ?_
          rotate_left 1
          · intro w' hS'
            go_simp
            all_goals with_reducible rfl
          simp only [Act.put, List.setIfInBounds_toArray, List.set_cons_zero, List.set_cons_succ]
          have b0 : Below w.heap.size w w.drew := (Below.refl _ _).drew
          refine wpAnyT_all (rs := [0, 6]) (by kernel_rfl) (by simp) ?_
          intro ix hix
          simp only [List.mem_cons, List.not_mem_nil, or_false] at hix
          rcases hix with rfl | rfl
          · refine wpT_op (o := _) (by rfl) (fun K hK => ?_)
            go_simp
            have b1 := b0.alloc b0.size (.cells #[] 9)
            have m2 : Mid (w.drew.alloc (.cells #[] 9)) w.heap.size 9 1 (.slice (some ⟨w.heap.size, 0, none⟩) 0 0) 0 [] := by
              have h := Mid.empty (w := w.drew) (base := w.heap.size) (t := 9) b0.size
              have e : w.drew.heap.size = w.heap.size := by simp
              rw [e] at h; exact h
            refine hK _ _ (fun _ => trivial) ?_
            clear hK K
            try simp only [Act.put, List.setIfInBounds_toArray, List.set_cons_zero, List.set_cons_succ]
            refine wpAnyT_all (rs := [4, 6]) (by kernel_rfl) (by simp) ?_
            intro ix hix
            simp only [List.mem_cons, List.not_mem_nil, or_false] at hix
            rcases hix with rfl | rfl
            · refine wpT_op (o := _) (by rfl) (fun K hK => ?_)
              refine step_append_src (by rfl) _ _ _ (by rfl) w.heap.size 9 i0 _ 1 16 Try.underlying22 hi0 hz0 hz1 hz2 rfl (by omega) (.slice (some ⟨w.heap.size, 0, none⟩) 0 0) (0) ([]) (by rfl) m2 w.heap.size _ _ _ (strs (L.take (i))) (by rfl) (HA.out _ b1) (strs_one _) (by unfold maxLen; omega) (by omega) b1.size ?_
              intro v3 wq4 hm5 hr6
              have b7 := b1.grown hr6.grown b1.size (fun g hg => (m2.lt g hg).1)
              refine hK _ _ (fun _ => trivial) ?_
              clear hK K
              try simp only [Act.put, List.setIfInBounds_toArray, List.set_cons_zero, List.set_cons_succ]
              refine wpAnyT_all (rs := [6]) (by kernel_rfl) (by simp) ?_
              intro ix hix
              simp only [List.mem_cons, List.not_mem_nil, or_false] at hix
              subst hix
              refine wpT_op (o := _) (by rfl) (fun K hK => ?_)
              go_simp
              have b8 := b7.alloc b7.size (.cells #[.string (bt x)] 9)
              have hl9 : (wq4.alloc (.cells #[.string (bt x)] 9)).cell? ⟨wq4.heap.size, 0, none⟩ = some (.string (bt x)) := World.cell?_alloc_at _ _ _ _ (by simp)
              have m10 := Mid.alloc_ hm5 (.cells #[.string (bt x)] 9)
              refine hK _ _ (fun _ => trivial) ?_
              clear hK K
              try simp only [Act.put, List.setIfInBounds_toArray, List.set_cons_zero, List.set_cons_succ]
              refine wpAnyT_all (rs := [7]) (by kernel_rfl) (by simp) ?_
              intro ix hix
              simp only [List.mem_cons, List.not_mem_nil, or_false] at hix
              subst hix
              refine wpT_op (o := _) (by rfl) (fun K hK => ?_)
              refine step_append_mid (by rfl) _ _ _ (by rfl) w.heap.size 9 i0 _ 1 16 Try.underlying22 hi0 hz0 hz1 hz2 rfl (by omega) v3 (0 + i) ([] ++ strs (L.take (i))) (by rfl) m10 ⟨wq4.heap.size, 0, none⟩ 1 1 [.string (bt x)] (by rfl) (by rfl) (news_one hl9) (by simp [Value.oneCell']) (by unfold maxLen; omega) (by omega) b8.size ?_
              intro v11 wq12 hm13 hr14
              have b15 := b8.grown hr14.grown b8.size (fun g hg => (m10.lt g hg).1)
              refine hK _ _ (fun _ => trivial) ?_
              clear hK K
              try simp only [Act.put, List.setIfInBounds_toArray, List.set_cons_zero, List.set_cons_succ]
              refine wpAnyT_all (rs := [11]) (by kernel_rfl) (by simp) ?_
              intro ix hix
              simp only [List.mem_cons, List.not_mem_nil, or_false] at hix
              subst hix
              refine wpT_op (o := _) (by rfl) (fun K hK => ?_)
              refine step_append_src (by rfl) _ _ _ (by rfl) w.heap.size 9 i0 _ 1 16 Try.underlying22 hi0 hz0 hz1 hz2 rfl (by omega) v11 (0 + i + 1) ([] ++ strs (L.take (i)) ++ [.string (bt x)]) (by rfl) hm13 w.heap.size _ _ _ (strs (L.drop (i))) (by rfl) (HBk.out _ b15) (strs_one _) (by unfold maxLen; omega) (by omega) b15.size ?_
              intro v16 wq17 hm18 hr19
              have b20 := b15.grown hr19.grown b15.size (fun g hg => (hm13.lt g hg).1)
              refine hK _ _ (fun _ => trivial) ?_
              clear hK K
              try simp only [Act.put, List.setIfInBounds_toArray, List.set_cons_zero, List.set_cons_succ]
              refine wpAnyT_all (rs := [12]) (by kernel_rfl) (by simp) ?_
              intro ix hix
              simp only [List.mem_cons, List.not_mem_nil, or_false] at hix
              subst hix
              refine wpT_op (o := _) (by rfl) (fun K hK => ?_)
              try go_simp
              refine hK _ _ (fun h => absurd h (by omega)) ?_
              clear hK K
              refine wpAnyT_done (by kernel_rfl) ?_ _
              have HMz := Lib.hid hm18
              have HBz := Lib.hid b20
              clear hm18 b20
              go_wp2
              go_ret
              exact ins_post HL.out (by omega) HMz.out HBz.out HE.out
            · refine wpT_op (o := _) (by rfl) (fun K hK => ?_)
              go_simp
              have b21 := b1.alloc b1.size (.cells #[.string (bt x)] 9)
              have hl22 : ((w.drew.alloc (.cells #[] 9)).alloc (.cells #[.string (bt x)] 9)).cell? ⟨w.heap.size + 1, 0, none⟩ = some (.string (bt x)) := World.cell?_alloc_at _ _ _ _ (by simp)
              have m23 := Mid.alloc_ m2 (.cells #[.string (bt x)] 9)
              refine hK _ _ (fun _ => trivial) ?_
              clear hK K
              try simp only [Act.put, List.setIfInBounds_toArray, List.set_cons_zero, List.set_cons_succ]
              refine wpAnyT_all (rs := [4]) (by kernel_rfl) (by simp) ?_
              intro ix hix
              simp only [List.mem_cons, List.not_mem_nil, or_false] at hix
              subst hix
              refine wpT_op (o := _) (by rfl) (fun K hK => ?_)
              refine step_append_src (by rfl) _ _ _ (by rfl) w.heap.size 9 i0 _ 1 16 Try.underlying22 hi0 hz0 hz1 hz2 rfl (by omega) (.slice (some ⟨w.heap.size, 0, none⟩) 0 0) (0) ([]) (by rfl) m23 w.heap.size _ _ _ (strs (L.take (i))) (by rfl) (HA.out _ b21) (strs_one _) (by unfold maxLen; omega) (by omega) b21.size ?_
              intro v24 wq25 hm26 hr27
              have b28 := b21.grown hr27.grown b21.size (fun g hg => (m23.lt g hg).1)
              have hl29 := ran_cell hr27 m23 hl22 (by simp [Value.ownBlock])
              refine hK _ _ (fun _ => trivial) ?_
              clear hK K
              try simp only [Act.put, List.setIfInBounds_toArray, List.set_cons_zero, List.set_cons_succ]
              refine wpAnyT_all (rs := [7]) (by kernel_rfl) (by simp) ?_
              intro ix hix
              simp only [List.mem_cons, List.not_mem_nil, or_false] at hix
              subst hix
              refine wpT_op (o := _) (by rfl) (fun K hK => ?_)
              refine step_append_mid (by rfl) _ _ _ (by rfl) w.heap.size 9 i0 _ 1 16 Try.underlying22 hi0 hz0 hz1 hz2 rfl (by omega) v24 (0 + i) ([] ++ strs (L.take (i))) (by rfl) hm26 ⟨w.heap.size + 1, 0, none⟩ 1 1 [.string (bt x)] (by rfl) (by rfl) (news_one hl29) (by simp [Value.oneCell']) (by unfold maxLen; omega) (by omega) b28.size ?_
              intro v30 wq31 hm32 hr33
              have b34 := b28.grown hr33.grown b28.size (fun g hg => (hm26.lt g hg).1)
              refine hK _ _ (fun _ => trivial) ?_
              clear hK K
              try simp only [Act.put, List.setIfInBounds_toArray, List.set_cons_zero, List.set_cons_succ]
              refine wpAnyT_all (rs := [11]) (by kernel_rfl) (by simp) ?_
              intro ix hix
              simp only [List.mem_cons, List.not_mem_nil, or_false] at hix
              subst hix
              refine wpT_op (o := _) (by rfl) (fun K hK => ?_)
              refine step_append_src (by rfl) _ _ _ (by rfl) w.heap.size 9 i0 _ 1 16 Try.underlying22 hi0 hz0 hz1 hz2 rfl (by omega) v30 (0 + i + 1) ([] ++ strs (L.take (i)) ++ [.string (bt x)]) (by rfl) hm32 w.heap.size _ _ _ (strs (L.drop (i))) (by rfl) (HBk.out _ b34) (strs_one _) (by unfold maxLen; omega) (by omega) b34.size ?_
              intro v35 wq36 hm37 hr38
              have b39 := b34.grown hr38.grown b34.size (fun g hg => (hm32.lt g hg).1)
              refine hK _ _ (fun _ => trivial) ?_
              clear hK K
              try simp only [Act.put, List.setIfInBounds_toArray, List.set_cons_zero, List.set_cons_succ]
              refine wpAnyT_all (rs := [12]) (by kernel_rfl) (by simp) ?_
              intro ix hix
              simp only [List.mem_cons, List.not_mem_nil, or_false] at hix
              subst hix
              refine wpT_op (o := _) (by rfl) (fun K hK => ?_)
              try go_simp
              refine hK _ _ (fun h => absurd h (by omega)) ?_
              clear hK K
              refine wpAnyT_done (by kernel_rfl) ?_ _
              have HMz := Lib.hid hm37
              have HBz := Lib.hid b39
              clear hm37 b39
              go_wp2
              go_ret
              exact ins_post HL.out (by omega) HMz.out HBz.out HE.out
          · refine wpT_op (o := _) (by rfl) (fun K hK => ?_)
            go_simp
            have b40 := b0.alloc b0.size (.cells #[.string (bt x)] 9)
            have hl41 : (w.drew.alloc (.cells #[.string (bt x)] 9)).cell? ⟨w.heap.size, 0, none⟩ = some (.string (bt x)) := World.cell?_alloc_at _ _ _ _ (by simp)
            refine hK _ _ (fun _ => trivial) ?_
            clear hK K
            try simp only [Act.put, List.setIfInBounds_toArray, List.set_cons_zero, List.set_cons_succ]
            refine wpAnyT_all (rs := [0]) (by kernel_rfl) (by simp) ?_
            intro ix hix
            simp only [List.mem_cons, List.not_mem_nil, or_false] at hix
            subst hix
            refine wpT_op (o := _) (by rfl) (fun K hK => ?_)
            go_simp
            have b42 := b40.alloc b40.size (.cells #[] 9)
            have m43 : Mid ((w.drew.alloc (.cells #[.string (bt x)] 9)).alloc (.cells #[] 9)) w.heap.size 9 1 (.slice (some ⟨w.heap.size + 1, 0, none⟩) 0 0) 0 [] := by
              have h := Mid.empty (w := (w.drew.alloc (.cells #[.string (bt x)] 9))) (base := w.heap.size) (t := 9) b40.size
              have e : (w.drew.alloc (.cells #[.string (bt x)] 9)).heap.size = w.heap.size + 1 := by simp
              rw [e] at h; exact h
            have hl44 : ((w.drew.alloc (.cells #[.string (bt x)] 9)).alloc (.cells #[] 9)).cell? ⟨w.heap.size, 0, none⟩ = some (.string (bt x)) := (World.cell?_alloc_lt _ _ _ (by simp)).trans hl41
            refine hK _ _ (fun _ => trivial) ?_
            clear hK K
            try simp only [Act.put, List.setIfInBounds_toArray, List.set_cons_zero, List.set_cons_succ]
            refine wpAnyT_all (rs := [4]) (by kernel_rfl) (by simp) ?_
            intro ix hix
            simp only [List.mem_cons, List.not_mem_nil, or_false] at hix
            subst hix
            refine wpT_op (o := _) (by rfl) (fun K hK => ?_)
            refine step_append_src (by rfl) _ _ _ (by rfl) w.heap.size 9 i0 _ 1 16 Try.underlying22 hi0 hz0 hz1 hz2 rfl (by omega) (.slice (some ⟨w.heap.size + 1, 0, none⟩) 0 0) (0) ([]) (by rfl) m43 w.heap.size _ _ _ (strs (L.take (i))) (by rfl) (HA.out _ b42) (strs_one _) (by unfold maxLen; omega) (by omega) b42.size ?_
            intro v45 wq46 hm47 hr48
            have b49 := b42.grown hr48.grown b42.size (fun g hg => (m43.lt g hg).1)
            have hl50 := ran_cell hr48 m43 hl44 (by simp [Value.ownBlock])
            refine hK _ _ (fun _ => trivial) ?_
            clear hK K
            try simp only [Act.put, List.setIfInBounds_toArray, List.set_cons_zero, List.set_cons_succ]
            refine wpAnyT_all (rs := [7]) (by kernel_rfl) (by simp) ?_
            intro ix hix
            simp only [List.mem_cons, List.not_mem_nil, or_false] at hix
            subst hix
            refine wpT_op (o := _) (by rfl) (fun K hK => ?_)
            refine step_append_mid (by rfl) _ _ _ (by rfl) w.heap.size 9 i0 _ 1 16 Try.underlying22 hi0 hz0 hz1 hz2 rfl (by omega) v45 (0 + i) ([] ++ strs (L.take (i))) (by rfl) hm47 ⟨w.heap.size, 0, none⟩ 1 1 [.string (bt x)] (by rfl) (by rfl) (news_one hl50) (by simp [Value.oneCell']) (by unfold maxLen; omega) (by omega) b49.size ?_
            intro v51 wq52 hm53 hr54
            have b55 := b49.grown hr54.grown b49.size (fun g hg => (hm47.lt g hg).1)
            refine hK _ _ (fun _ => trivial) ?_
            clear hK K
            try simp only [Act.put, List.setIfInBounds_toArray, List.set_cons_zero, List.set_cons_succ]
            refine wpAnyT_all (rs := [11]) (by kernel_rfl) (by simp) ?_
            intro ix hix
            simp only [List.mem_cons, List.not_mem_nil, or_false] at hix
            subst hix
            refine wpT_op (o := _) (by rfl) (fun K hK => ?_)
            refine step_append_src (by rfl) _ _ _ (by rfl) w.heap.size 9 i0 _ 1 16 Try.underlying22 hi0 hz0 hz1 hz2 rfl (by omega) v51 (0 + i + 1) ([] ++ strs (L.take (i)) ++ [.string (bt x)]) (by rfl) hm53 w.heap.size _ _ _ (strs (L.drop (i))) (by rfl) (HBk.out _ b55) (strs_one _) (by unfold maxLen; omega) (by omega) b55.size ?_
            intro v56 wq57 hm58 hr59
            have b60 := b55.grown hr59.grown b55.size (fun g hg => (hm53.lt g hg).1)
            refine hK _ _ (fun _ => trivial) ?_
            clear hK K
            try simp only [Act.put, List.setIfInBounds_toArray, List.set_cons_zero, List.set_cons_succ]
            refine wpAnyT_all (rs := [12]) (by kernel_rfl) (by simp) ?_
            intro ix hix
            simp only [List.mem_cons, List.not_mem_nil, or_false] at hix
            subst hix
            refine wpT_op (o := _) (by rfl) (fun K hK => ?_)
            try go_simp
            refine hK _ _ (fun h => absurd h (by omega)) ?_
            clear hK K
            refine wpAnyT_done (by kernel_rfl) ?_ _
            have HMz := Lib.hid hm58
            have HBz := Lib.hid b60
            clear hm58 b60
            go_wp2
            go_ret
            exact ins_post HL.out (by omega) HMz.out HBz.out HE.out
    · obtain rfl : n = i := by omega
      have HE : Hid (insL L x = L.take n ++ x :: L.drop n) := Lib.hid (by
        rw [insL_at L x n (by rw [HL.out]; exact Nat.le_refl _) HI.out (fun h => absurd h (by rw [HL.out]; omega)), if_neg (fun h => by have := h.1; rw [HL.out] at this; omega)])
      have g3 : (0 : Int) ≤ n := by omega
      have g4 : (n : Int) ≤ c := by omega
      by_cases hcn : c = n
      · subst hcn
        cases A with
        | none =>
          go_wp2
          have HA : Hid (∀ w', Below w.heap.size w w' → Reads w' w.heap.size 1 (none) (c) (strs (L.take (c)))) := Lib.hid (fun w' hb => ((HR.out.below hb).take_s (k := c) (by omega)))
          have HBk : Hid (∀ w', Below w.heap.size w w' → Reads w' w.heap.size 1 none 0 (strs (L.drop (c)))) := Lib.hid (fun w' hb => by have := (HR.out.below hb).drop_s (k := c) (c := c) (by omega) (by omega); rw [if_pos rfl, Nat.sub_self] at this; exact this)
          refine wp_region_T (fun _ => True) 12 (by kernel_rfl) ?_
          have hS : True := trivial
          refine wpAnyT_take (i := 1) (oi := _) (v := ?_) (by rfl) (by kernel_rfl) (by intro _ _ _ h; exact h) hS (Or.inl ⟨by rfl, ?_⟩) ?_
          rotate_left 1
          · intro w' hS'
            go_simp
            all_goals with_reducible rfl
          simp only [Act.put, List.setIfInBounds_toArray, List.set_cons_zero, List.set_cons_succ]
          refine wpAnyT_take (i := 2) (oi := _) (v := ?_) (by rfl) (by kernel_rfl) (by intro _ _ _ h; exact h) hS (Or.inl ⟨by rfl, ?_⟩) ?_
          rotate_left 1
          · intro w' hS'
            go_simp
            all_goals with_reducible rfl
          simp only [Act.put, List.setIfInBounds_toArray, List.set_cons_zero, List.set_cons_succ]
          refine wpAnyT_take (i := 3) (oi := _) (v := ?_) (by rfl) (by kernel_rfl) (by intro _ _ _ h; exact h) hS (Or.inl ⟨by rfl, ?_⟩) ?_
          rotate_left 1
          · intro w' hS'
            go_simp
            all_goals with_reducible rfl
          simp only [Act.put, List.setIfInBounds_toArray, List.set_cons_zero, List.set_cons_succ]
          refine wpAnyT_take (i := 5) (oi := _) (v := ?_) (by rfl) (by kernel_rfl) (by intro _ _ _ h; exact h) hS (Or.inl ⟨by rfl, ?_⟩) ?_
          rotate_left 1
          · intro w' hS'
            go_simp
            all_goals with_reducible rfl
          simp only [Act.put, List.setIfInBounds_toArray, List.set_cons_zero, List.set_cons_succ]
          refine wpAnyT_take (i := 8) (oi := _) (v := ?_) (by rfl) (by kernel_rfl) (by intro _ _ _ h; exact h) hS (Or.inl ⟨by rfl, ?_⟩) ?_
          rotate_left 1
          · intro w' hS'
            go_simp
            all_goals with_reducible rfl
          simp only [Act.put, List.setIfInBounds_toArray, List.set_cons_zero, List.set_cons_succ]
          refine wpAnyT_take (i := 9) (oi := _) (v := ?_) (by rfl) (by kernel_rfl) (by intro _ _ _ h; exact h) hS (Or.inl ⟨by rfl, ?_⟩) ?_
          rotate_left 1
          · intro w' hS'
            go_simp
            all_goals with_reducible rfl
          simp only [Act.put, List.setIfInBounds_toArray, List.set_cons_zero, List.set_cons_succ]
          refine wpAnyT_take (i := 10) (oi := _) (v := ?_) (by rfl) (by kernel_rfl) (by intro _ _ _ h; exact h) hS (Or.inl ⟨by rfl, ?_⟩) ?_
          rotate_left 1
          · intro w' hS'
            go_simp
            all_goals with_reducible rfl
          simp only [Act.put, List.setIfInBounds_toArray, List.set_cons_zero, List.set_cons_succ]
          have b0 : Below w.heap.size w w.drew := (Below.refl _ _).drew
          refine wpAnyT_all (rs := [0, 6]) (by kernel_rfl) (by simp) ?_
          intro ix hix
          simp only [List.mem_cons, List.not_mem_nil, or_false] at hix
          rcases hix with rfl | rfl
          · refine wpT_op (o := _) (by rfl) (fun K hK => ?_)
            go_simp
            have b1 := b0.alloc b0.size (.cells #[] 9)
            have m2 : Mid (w.drew.alloc (.cells #[] 9)) w.heap.size 9 1 (.slice (some ⟨w.heap.size, 0, none⟩) 0 0) 0 [] := by
              have h := Mid.empty (w := w.drew) (base := w.heap.size) (t := 9) b0.size
              have e : w.drew.heap.size = w.heap.size := by simp
              rw [e] at h; exact h
            refine hK _ _ (fun _ => trivial) ?_
            clear hK K
            try simp only [Act.put, List.setIfInBounds_toArray, List.set_cons_zero, List.set_cons_succ]
            refine wpAnyT_all (rs := [4, 6]) (by kernel_rfl) (by simp) ?_
            intro ix hix
            simp only [List.mem_cons, List.not_mem_nil, or_false] at hix
            rcases hix with rfl | rfl
            · refine wpT_op (o := _) (by rfl) (fun K hK => ?_)
              refine step_append_src (by rfl) _ _ _ (by rfl) w.heap.size 9 i0 _ 1 16 Try.underlying22 hi0 hz0 hz1 hz2 rfl (by omega) (.slice (some ⟨w.heap.size, 0, none⟩) 0 0) (0) ([]) (by rfl) m2 w.heap.size _ _ _ (strs (L.take (c))) (by rfl) (HA.out _ b1) (strs_one _) (by unfold maxLen; omega) (by omega) b1.size ?_
              intro v3 wq4 hm5 hr6
              have b7 := b1.grown hr6.grown b1.size (fun g hg => (m2.lt g hg).1)
              refine hK _ _ (fun _ => trivial) ?_
              clear hK K
              try simp only [Act.put, List.setIfInBounds_toArray, List.set_cons_zero, List.set_cons_succ]
              refine wpAnyT_all (rs := [6]) (by kernel_rfl) (by simp) ?_
              intro ix hix
              simp only [List.mem_cons, List.not_mem_nil, or_false] at hix
              subst hix
              refine wpT_op (o := _) (by rfl) (fun K hK => ?_)
              go_simp
              have b8 := b7.alloc b7.size (.cells #[.string (bt x)] 9)
              have hl9 : (wq4.alloc (.cells #[.string (bt x)] 9)).cell? ⟨wq4.heap.size, 0, none⟩ = some (.string (bt x)) := World.cell?_alloc_at _ _ _ _ (by simp)
              have m10 := Mid.alloc_ hm5 (.cells #[.string (bt x)] 9)
              refine hK _ _ (fun _ => trivial) ?_
              clear hK K
              try simp only [Act.put, List.setIfInBounds_toArray, List.set_cons_zero, List.set_cons_succ]
              refine wpAnyT_all (rs := [7]) (by kernel_rfl) (by simp) ?_
              intro ix hix
              simp only [List.mem_cons, List.not_mem_nil, or_false] at hix
              subst hix
              refine wpT_op (o := _) (by rfl) (fun K hK => ?_)
              refine step_append_mid (by rfl) _ _ _ (by rfl) w.heap.size 9 i0 _ 1 16 Try.underlying22 hi0 hz0 hz1 hz2 rfl (by omega) v3 (0 + c) ([] ++ strs (L.take (c))) (by rfl) m10 ⟨wq4.heap.size, 0, none⟩ 1 1 [.string (bt x)] (by rfl) (by rfl) (news_one hl9) (by simp [Value.oneCell']) (by unfold maxLen; omega) (by omega) b8.size ?_
              intro v11 wq12 hm13 hr14
              have b15 := b8.grown hr14.grown b8.size (fun g hg => (m10.lt g hg).1)
              refine hK _ _ (fun _ => trivial) ?_
              clear hK K
              try simp only [Act.put, List.setIfInBounds_toArray, List.set_cons_zero, List.set_cons_succ]
              refine wpAnyT_all (rs := [11]) (by kernel_rfl) (by simp) ?_
              intro ix hix
              simp only [List.mem_cons, List.not_mem_nil, or_false] at hix
              subst hix
              refine wpT_op (o := _) (by rfl) (fun K hK => ?_)
              refine step_append_src (by rfl) _ _ _ (by rfl) w.heap.size 9 i0 _ 1 16 Try.underlying22 hi0 hz0 hz1 hz2 rfl (by omega) v11 (0 + c + 1) ([] ++ strs (L.take (c)) ++ [.string (bt x)]) (by rfl) hm13 w.heap.size _ _ _ (strs (L.drop (c))) (by rfl) (HBk.out _ b15) (strs_one _) (by unfold maxLen; omega) (by omega) b15.size ?_
              intro v16 wq17 hm18 hr19
              have b20 := b15.grown hr19.grown b15.size (fun g hg => (hm13.lt g hg).1)
              refine hK _ _ (fun _ => trivial) ?_
              clear hK K
              try simp only [Act.put, List.setIfInBounds_toArray, List.set_cons_zero, List.set_cons_succ]
              refine wpAnyT_all (rs := [12]) (by kernel_rfl) (by simp) ?_
              intro ix hix
              simp only [List.mem_cons, List.not_mem_nil, or_false] at hix
              subst hix
              refine wpT_op (o := _) (by rfl) (fun K hK => ?_)
              try go_simp
              refine hK _ _ (fun h => absurd h (by omega)) ?_
              clear hK K
              refine wpAnyT_done (by kernel_rfl) ?_ _
              have HMz := Lib.hid hm18
              have HBz := Lib.hid b20
              clear hm18 b20
              go_wp2
              go_ret
              exact ins_post HL.out (by omega) (by rw [Nat.sub_self]; exact HMz.out) HBz.out HE.out
            · refine wpT_op (o := _) (by rfl) (fun K hK => ?_)
              go_simp
              have b21 := b1.alloc b1.size (.cells #[.string (bt x)] 9)
              have hl22 : ((w.drew.alloc (.cells #[] 9)).alloc (.cells #[.string (bt x)] 9)).cell? ⟨w.heap.size + 1, 0, none⟩ = some (.string (bt x)) := World.cell?_alloc_at _ _ _ _ (by simp)
              have m23 := Mid.alloc_ m2 (.cells #[.string (bt x)] 9)
              refine hK _ _ (fun _ => trivial) ?_
              clear hK K
              try simp only [Act.put, List.setIfInBounds_toArray, List.set_cons_zero, List.set_cons_succ]
              refine wpAnyT_all (rs := [4]) (by kernel_rfl) (by simp) ?_
              intro ix hix
              simp only [List.mem_cons, List.not_mem_nil, or_false] at hix
              subst hix
              refine wpT_op (o := _) (by rfl) (fun K hK => ?_)
              refine step_append_src (by rfl) _ _ _ (by rfl) w.heap.size 9 i0 _ 1 16 Try.underlying22 hi0 hz0 hz1 hz2 rfl (by omega) (.slice (some ⟨w.heap.size, 0, none⟩) 0 0) (0) ([]) (by rfl) m23 w.heap.size _ _ _ (strs (L.take (c))) (by rfl) (HA.out _ b21) (strs_one _) (by unfold maxLen; omega) (by omega) b21.size ?_
              intro v24 wq25 hm26 hr27
              have b28 := b21.grown hr27.grown b21.size (fun g hg => (m23.lt g hg).1)
              have hl29 := ran_cell hr27 m23 hl22 (by simp [Value.ownBlock])
              refine hK _ _ (fun _ => trivial) ?_
              clear hK K
              try simp only [Act.put, List.setIfInBounds_toArray, List.set_cons_zero, List.set_cons_succ]
              refine wpAnyT_all (rs := [7]) (by kernel_rfl) (by simp) ?_
              intro ix hix
              simp only [List.mem_cons, List.not_mem_nil, or_false] at hix
              subst hix
              refine wpT_op (o := _) (by rfl) (fun K hK => ?_)
              refine step_append_mid (by rfl) _ _ _ (by rfl) w.heap.size 9 i0 _ 1 16 Try.underlying22 hi0 hz0 hz1 hz2 rfl (by omega) v24 (0 + c) ([] ++ strs (L.take (c))) (by rfl) hm26 ⟨w.heap.size + 1, 0, none⟩ 1 1 [.string (bt x)] (by rfl) (by rfl) (news_one hl29) (by simp [Value.oneCell']) (by unfold maxLen; omega) (by omega) b28.size ?_
              intro v30 wq31 hm32 hr33
              have b34 := b28.grown hr33.grown b28.size (fun g hg => (hm26.lt g hg).1)
              refine hK _ _ (fun _ => trivial) ?_
              clear hK K
              try simp only [Act.put, List.setIfInBounds_toArray, List.set_cons_zero, List.set_cons_succ]
              refine wpAnyT_all (rs := [11]) (by kernel_rfl) (by simp) ?_
              intro ix hix
              simp only [List.mem_cons, List.not_mem_nil, or_false] at hix
              subst hix
              refine wpT_op (o := _) (by rfl) (fun K hK => ?_)
              refine step_append_src (by rfl) _ _ _ (by rfl) w.heap.size 9 i0 _ 1 16 Try.underlying22 hi0 hz0 hz1 hz2 rfl (by omega) v30 (0 + c + 1) ([] ++ strs (L.take (c)) ++ [.string (bt x)]) (by rfl) hm32 w.heap.size _ _ _ (strs (L.drop (c))) (by rfl) (HBk.out _ b34) (strs_one _) (by unfold maxLen; omega) (by omega) b34.size ?_
              intro v35 wq36 hm37 hr38
              have b39 := b34.grown hr38.grown b34.size (fun g hg => (hm32.lt g hg).1)
              refine hK _ _ (fun _ => trivial) ?_
              clear hK K
              try simp only [Act.put, List.setIfInBounds_toArray, List.set_cons_zero, List.set_cons_succ]
              refine wpAnyT_all (rs := [12]) (by kernel_rfl) (by simp) ?_
              intro ix hix
              simp only [List.mem_cons, List.not_mem_nil, or_false] at hix
              subst hix
              refine wpT_op (o := _) (by rfl) (fun K hK => ?_)
              try go_simp
              refine hK _ _ (fun h => absurd h (by omega)) ?_
              clear hK K
              refine wpAnyT_done (by kernel_rfl) ?_ _
              have HMz := Lib.hid hm37
              have HBz := Lib.hid b39
              clear hm37 b39
              go_wp2
              go_ret
              exact ins_post HL.out (by omega) (by rw [Nat.sub_self]; exact HMz.out) HBz.out HE.out
          · refine wpT_op (o := _) (by rfl) (fun K hK => ?_)
            go_simp
            have b40 := b0.alloc b0.size (.cells #[.string (bt x)] 9)
            have hl41 : (w.drew.alloc (.cells #[.string (bt x)] 9)).cell? ⟨w.heap.size, 0, none⟩ = some (.string (bt x)) := World.cell?_alloc_at _ _ _ _ (by simp)
            refine hK _ _ (fun _ => trivial) ?_
            clear hK K
            try simp only [Act.put, List.setIfInBounds_toArray, List.set_cons_zero, List.set_cons_succ]
            refine wpAnyT_all (rs := [0]) (by kernel_rfl) (by simp) ?_
            intro ix hix
            simp only [List.mem_cons, List.not_mem_nil, or_false] at hix
            subst hix
            refine wpT_op (o := _) (by rfl) (fun K hK => ?_)
            go_simp
            have b42 := b40.alloc b40.size (.cells #[] 9)
            have m43 : Mid ((w.drew.alloc (.cells #[.string (bt x)] 9)).alloc (.cells #[] 9)) w.heap.size 9 1 (.slice (some ⟨w.heap.size + 1, 0, none⟩) 0 0) 0 [] := by
              have h := Mid.empty (w := (w.drew.alloc (.cells #[.string (bt x)] 9))) (base := w.heap.size) (t := 9) b40.size
              have e : (w.drew.alloc (.cells #[.string (bt x)] 9)).heap.size = w.heap.size + 1 := by simp
              rw [e] at h; exact h
            have hl44 : ((w.drew.alloc (.cells #[.string (bt x)] 9)).alloc (.cells #[] 9)).cell? ⟨w.heap.size, 0, none⟩ = some (.string (bt x)) := (World.cell?_alloc_lt _ _ _ (by simp)).trans hl41
            refine hK _ _ (fun _ => trivial) ?_
            clear hK K
            try simp only [Act.put, List.setIfInBounds_toArray, List.set_cons_zero, List.set_cons_succ]
            refine wpAnyT_all (rs := [4]) (by kernel_rfl) (by simp) ?_
            intro ix hix
            simp only [List.mem_cons, List.not_mem_nil, or_false] at hix
            subst hix
            refine wpT_op (o := _) (by rfl) (fun K hK => ?_)
            refine step_append_src (by rfl) _ _ _ (by rfl) w.heap.size 9 i0 _ 1 16 Try.underlying22 hi0 hz0 hz1 hz2 rfl (by omega) (.slice (some ⟨w.heap.size + 1, 0, none⟩) 0 0) (0) ([]) (by rfl) m43 w.heap.size _ _ _ (strs (L.take (c))) (by rfl) (HA.out _ b42) (strs_one _) (by unfold maxLen; omega) (by omega) b42.size ?_
            intro v45 wq46 hm47 hr48
            have b49 := b42.grown hr48.grown b42.size (fun g hg => (m43.lt g hg).1)
            have hl50 := ran_cell hr48 m43 hl44 (by simp [Value.ownBlock])
            refine hK _ _ (fun _ => trivial) ?_
            clear hK K
            try simp only [Act.put, List.setIfInBounds_toArray, List.set_cons_zero, List.set_cons_succ]
            refine wpAnyT_all (rs := [7]) (by kernel_rfl) (by simp) ?_
            intro ix hix
            simp only [List.mem_cons, List.not_mem_nil, or_false] at hix
            subst hix
            refine wpT_op (o := _) (by rfl) (fun K hK => ?_)
            refine step_append_mid (by rfl) _ _ _ (by rfl) w.heap.size 9 i0 _ 1 16 Try.underlying22 hi0 hz0 hz1 hz2 rfl (by omega) v45 (0 + c) ([] ++ strs (L.take (c))) (by rfl) hm47 ⟨w.heap.size, 0, none⟩ 1 1 [.string (bt x)] (by rfl) (by rfl) (news_one hl50) (by simp [Value.oneCell']) (by unfold maxLen; omega) (by omega) b49.size ?_
            intro v51 wq52 hm53 hr54
            have b55 := b49.grown hr54.grown b49.size (fun g hg => (hm47.lt g hg).1)
            refine hK _ _ (fun _ => trivial) ?_
            clear hK K
            try simp only [Act.put, List.setIfInBounds_toArray, List.set_cons_zero, List.set_cons_succ]
            refine wpAnyT_all (rs := [11]) (by kernel_rfl) (by simp) ?_
            intro ix hix
            simp only [List.mem_cons, List.not_mem_nil, or_false] at hix
            subst hix
            refine wpT_op (o := _) (by rfl) (fun K hK => ?_)
            refine step_append_src (by rfl) _ _ _ (by rfl) w.heap.size 9 i0 _ 1 16 Try.underlying22 hi0 hz0 hz1 hz2 rfl (by omega) v51 (0 + c + 1) ([] ++ strs (L.take (c)) ++ [.string (bt x)]) (by rfl) hm53 w.heap.size _ _ _ (strs (L.drop (c))) (by rfl) (HBk.out _ b55) (strs_one _) (by unfold maxLen; omega) (by omega) b55.size ?_
            intro v56 wq57 hm58 hr59
            have b60 := b55.grown hr59.grown b55.size (fun g hg => (hm53.lt g hg).1)
            refine hK _ _ (fun _ => trivial) ?_
            clear hK K
            try simp only [Act.put, List.setIfInBounds_toArray, List.set_cons_zero, List.set_cons_succ]
            refine wpAnyT_all (rs := [12]) (by kernel_rfl) (by simp) ?_
            intro ix hix
            simp only [List.mem_cons, List.not_mem_nil, or_false] at hix
            subst hix
            refine wpT_op (o := _) (by rfl) (fun K hK => ?_)
            try go_simp
            refine hK _ _ (fun h => absurd h (by omega)) ?_
            clear hK K
            refine wpAnyT_done (by kernel_rfl) ?_ _
            have HMz := Lib.hid hm58
            have HBz := Lib.hid b60
            clear hm58 b60
            go_wp2
            go_ret
            exact ins_post HL.out (by omega) (by rw [Nat.sub_self]; exact HMz.out) HBz.out HE.out
        | some ad =>
          go_wp2
          have HA : Hid (∀ w', Below w.heap.size w w' → Reads w' w.heap.size 1 (some ad) (c) (strs (L.take (c)))) := Lib.hid (fun w' hb => ((HR.out.below hb).take_s (k := c) (by omega)))
          have HBk : Hid (∀ w', Below w.heap.size w w' → Reads w' w.heap.size 1 (some ad) 0 (strs (L.drop (c)))) := Lib.hid (fun w' hb => by have := (HR.out.below hb).drop_s (k := c) (c := c) (by omega) (by omega); rw [if_pos rfl, Nat.sub_self] at this; exact this)
          refine wp_region_T (fun _ => True) 12 (by kernel_rfl) ?_
          have hS : True := trivial
          refine wpAnyT_take (i := 1) (oi := _) (v := ?_) (by rfl) (by kernel_rfl) (by intro _ _ _ h; exact h) hS (Or.inl ⟨by rfl, ?_⟩) ?_
          rotate_left 1
          · intro w' hS'
            go_simp
            all_goals with_reducible rfl
          simp only [Act.put, List.setIfInBounds_toArray, List.set_cons_zero, List.set_cons_succ]
          refine wpAnyT_take (i := 2) (oi := _) (v := ?_) (by rfl) (by kernel_rfl) (by intro _ _ _ h; exact h) hS (Or.inl ⟨by rfl, ?_⟩) ?_
          rotate_left 1
          · intro w' hS'
            go_simp
            all_goals with_reducible rfl
          simp only [Act.put, List.setIfInBounds_toArray, List.set_cons_zero, List.set_cons_succ]
          refine wpAnyT_take (i := 3) (oi := _) (v := ?_) (by rfl) (by kernel_rfl) (by intro _ _ _ h; exact h) hS (Or.inl ⟨by rfl, ?_⟩) ?_
          rotate_left 1
          · intro w' hS'
            go_simp
            all_goals with_reducible rfl
          simp only [Act.put, List.setIfInBounds_toArray, List.set_cons_zero, List.set_cons_succ]
          refine wpAnyT_take (i := 5) (oi := _) (v := ?_) (by rfl) (by kernel_rfl) (by intro _ _ _ h; exact h) hS (Or.inl ⟨by rfl, ?_⟩) ?_
          rotate_left 1
          · intro w' hS'
            go_simp
            all_goals with_reducible rfl
          simp only [Act.put, List.setIfInBounds_toArray, List.set_cons_zero, List.set_cons_succ]
          refine wpAnyT_take (i := 8) (oi := _) (v := ?_) (by rfl) (by kernel_rfl) (by intro _ _ _ h; exact h) hS (Or.inl ⟨by rfl, ?_⟩) ?_
          rotate_left 1
          · intro w' hS'
            go_simp
            all_goals with_reducible rfl
          simp only [Act.put, List.setIfInBounds_toArray, List.set_cons_zero, List.set_cons_succ]
          refine wpAnyT_take (i := 9) (oi := _) (v := ?_) (by rfl) (by kernel_rfl) (by intro _ _ _ h; exact h) hS (Or.inl ⟨by rfl, ?_⟩) ?_
          rotate_left 1
          · intro w' hS'
            go_simp
            all_goals with_reducible rfl
          simp only [Act.put, List.setIfInBounds_toArray, List.set_cons_zero, List.set_cons_succ]
          refine wpAnyT_take (i := 10) (oi := _) (v := ?_) (by rfl) (by kernel_rfl) (by intro _ _ _ h; exact h) hS (Or.inl ⟨by rfl, ?_⟩) ?_
          rotate_left 1
          · intro w' hS'
            go_simp
            all_goals with_reducible rfl
          simp only [Act.put, List.setIfInBounds_toArray, List.set_cons_zero, List.set_cons_succ]
          have b0 : Below w.heap.size w w.drew := (Below.refl _ _).drew
          refine wpAnyT_all (rs := [0, 6]) (by kernel_rfl) (by simp) ?_
          intro ix hix
          simp only [List.mem_cons, List.not_mem_nil, or_false] at hix
          rcases hix with rfl | rfl
          · refine wpT_op (o := _) (by rfl) (fun K hK => ?_)
            go_simp
            have b1 := b0.alloc b0.size (.cells #[] 9)
            have m2 : Mid (w.drew.alloc (.cells #[] 9)) w.heap.size 9 1 (.slice (some ⟨w.heap.size, 0, none⟩) 0 0) 0 [] := by
              have h := Mid.empty (w := w.drew) (base := w.heap.size) (t := 9) b0.size
              have e : w.drew.heap.size = w.heap.size := by simp
              rw [e] at h; exact h
            refine hK _ _ (fun _ => trivial) ?_
            clear hK K
            try simp only [Act.put, List.setIfInBounds_toArray, List.set_cons_zero, List.set_cons_succ]
            refine wpAnyT_all (rs := [4, 6]) (by kernel_rfl) (by simp) ?_
            intro ix hix
            simp only [List.mem_cons, List.not_mem_nil, or_false] at hix
            rcases hix with rfl | rfl
            · refine wpT_op (o := _) (by rfl) (fun K hK => ?_)
              refine step_append_src (by rfl) _ _ _ (by rfl) w.heap.size 9 i0 _ 1 16 Try.underlying22 hi0 hz0 hz1 hz2 rfl (by omega) (.slice (some ⟨w.heap.size, 0, none⟩) 0 0) (0) ([]) (by rfl) m2 w.heap.size _ _ _ (strs (L.take (c))) (by rfl) (HA.out _ b1) (strs_one _) (by unfold maxLen; omega) (by omega) b1.size ?_
              intro v3 wq4 hm5 hr6
              have b7 := b1.grown hr6.grown b1.size (fun g hg => (m2.lt g hg).1)
              refine hK _ _ (fun _ => trivial) ?_
              clear hK K
              try simp only [Act.put, List.setIfInBounds_toArray, List.set_cons_zero, List.set_cons_succ]
              refine wpAnyT_all (rs := [6]) (by kernel_rfl) (by simp) ?_
              intro ix hix
              simp only [List.mem_cons, List.not_mem_nil, or_false] at hix
              subst hix
              refine wpT_op (o := _) (by rfl) (fun K hK => ?_)
              go_simp
              have b8 := b7.alloc b7.size (.cells #[.string (bt x)] 9)
              have hl9 : (wq4.alloc (.cells #[.string (bt x)] 9)).cell? ⟨wq4.heap.size, 0, none⟩ = some (.string (bt x)) := World.cell?_alloc_at _ _ _ _ (by simp)
              have m10 := Mid.alloc_ hm5 (.cells #[.string (bt x)] 9)
              refine hK _ _ (fun _ => trivial) ?_
              clear hK K
              try simp only [Act.put, List.setIfInBounds_toArray, List.set_cons_zero, List.set_cons_succ]
              refine wpAnyT_all (rs := [7]) (by kernel_rfl) (by simp) ?_
              intro ix hix
              simp only [List.mem_cons, List.not_mem_nil, or_false] at hix
              subst hix
              refine wpT_op (o := _) (by rfl) (fun K hK => ?_)
              refine step_append_mid (by rfl) _ _ _ (by rfl) w.heap.size 9 i0 _ 1 16 Try.underlying22 hi0 hz0 hz1 hz2 rfl (by omega) v3 (0 + c) ([] ++ strs (L.take (c))) (by rfl) m10 ⟨wq4.heap.size, 0, none⟩ 1 1 [.string (bt x)] (by rfl) (by rfl) (news_one hl9) (by simp [Value.oneCell']) (by unfold maxLen; omega) (by omega) b8.size ?_
              intro v11 wq12 hm13 hr14
              have b15 := b8.grown hr14.grown b8.size (fun g hg => (m10.lt g hg).1)
              refine hK _ _ (fun _ => trivial) ?_
              clear hK K
              try simp only [Act.put, List.setIfInBounds_toArray, List.set_cons_zero, List.set_cons_succ]
              refine wpAnyT_all (rs := [11]) (by kernel_rfl) (by simp) ?_
              intro ix hix
              simp only [List.mem_cons, List.not_mem_nil, or_false] at hix
              subst hix
              refine wpT_op (o := _) (by rfl) (fun K hK => ?_)
              refine step_append_src (by rfl) _ _ _ (by rfl) w.heap.size 9 i0 _ 1 16 Try.underlying22 hi0 hz0 hz1 hz2 rfl (by omega) v11 (0 + c + 1) ([] ++ strs (L.take (c)) ++ [.string (bt x)]) (by rfl) hm13 w.heap.size _ _ _ (strs (L.drop (c))) (by rfl) (HBk.out _ b15) (strs_one _) (by unfold maxLen; omega) (by omega) b15.size ?_
              intro v16 wq17 hm18 hr19
              have b20 := b15.grown hr19.grown b15.size (fun g hg => (hm13.lt g hg).1)
              refine hK _ _ (fun _ => trivial) ?_
              clear hK K
              try simp only [Act.put, List.setIfInBounds_toArray, List.set_cons_zero, List.set_cons_succ]
              refine wpAnyT_all (rs := [12]) (by kernel_rfl) (by simp) ?_
              intro ix hix
              simp only [List.mem_cons, List.not_mem_nil, or_false] at hix
              subst hix
              refine wpT_op (o := _) (by rfl) (fun K hK => ?_)
              try go_simp
              refine hK _ _ (fun h => absurd h (by omega)) ?_
              clear hK K
              refine wpAnyT_done (by kernel_rfl) ?_ _
              have HMz := Lib.hid hm18
              have HBz := Lib.hid b20
              clear hm18 b20
              go_wp2
              go_ret
              exact ins_post HL.out (by omega) (by rw [Nat.sub_self]; exact HMz.out) HBz.out HE.out
            · refine wpT_op (o := _) (by rfl) (fun K hK => ?_)
              go_simp
              have b21 := b1.alloc b1.size (.cells #[.string (bt x)] 9)
              have hl22 : ((w.drew.alloc (.cells #[] 9)).alloc (.cells #[.string (bt x)] 9)).cell? ⟨w.heap.size + 1, 0, none⟩ = some (.string (bt x)) := World.cell?_alloc_at _ _ _ _ (by simp)
              have m23 := Mid.alloc_ m2 (.cells #[.string (bt x)] 9)
              refine hK _ _ (fun _ => trivial) ?_
              clear hK K
              try simp only [Act.put, List.setIfInBounds_toArray, List.set_cons_zero, List.set_cons_succ]
              refine wpAnyT_all (rs := [4]) (by kernel_rfl) (by simp) ?_
              intro ix hix
              simp only [List.mem_cons, List.not_mem_nil, or_false] at hix
              subst hix
              refine wpT_op (o := _) (by rfl) (fun K hK => ?_)
              refine step_append_src (by rfl) _ _ _ (by rfl) w.heap.size 9 i0 _ 1 16 Try.underlying22 hi0 hz0 hz1 hz2 rfl (by omega) (.slice (some ⟨w.heap.size, 0, none⟩) 0 0) (0) ([]) (by rfl) m23 w.heap.size _ _ _ (strs (L.take (c))) (by rfl) (HA.out _ b21) (strs_one _) (by unfold maxLen; omega) (by omega) b21.size ?_
              intro v24 wq25 hm26 hr27
              have b28 := b21.grown hr27.grown b21.size (fun g hg => (m23.lt g hg).1)
              have hl29 := ran_cell hr27 m23 hl22 (by simp [Value.ownBlock])
              refine hK _ _ (fun _ => trivial) ?_
              clear hK K
              try simp only [Act.put, List.setIfInBounds_toArray, List.set_cons_zero, List.set_cons_succ]
              refine wpAnyT_all (rs := [7]) (by kernel_rfl) (by simp) ?_
              intro ix hix
              simp only [List.mem_cons, List.not_mem_nil, or_false] at hix
              subst hix
              refine wpT_op (o := _) (by rfl) (fun K hK => ?_)
              refine step_append_mid (by rfl) _ _ _ (by rfl) w.heap.size 9 i0 _ 1 16 Try.underlying22 hi0 hz0 hz1 hz2 rfl (by omega) v24 (0 + c) ([] ++ strs (L.take (c))) (by rfl) hm26 ⟨w.heap.size + 1, 0, none⟩ 1 1 [.string (bt x)] (by rfl) (by rfl) (news_one hl29) (by simp [Value.oneCell']) (by unfold maxLen; omega) (by omega) b28.size ?_
              intro v30 wq31 hm32 hr33
              have b34 := b28.grown hr33.grown b28.size (fun g hg => (hm26.lt g hg).1)
              refine hK _ _ (fun _ => trivial) ?_
              clear hK K
              try simp only [Act.put, List.setIfInBounds_toArray, List.set_cons_zero, List.set_cons_succ]
              refine wpAnyT_all (rs := [11]) (by kernel_rfl) (by simp) ?_
              intro ix hix
              simp only [List.mem_cons, List.not_mem_nil, or_false] at hix
              subst hix
              refine wpT_op (o := _) (by rfl) (fun K hK => ?_)
              refine step_append_src (by rfl) _ _ _ (by rfl) w.heap.size 9 i0 _ 1 16 Try.underlying22 hi0 hz0 hz1 hz2 rfl (by omega) v30 (0 + c + 1) ([] ++ strs (L.take (c)) ++ [.string (bt x)]) (by rfl) hm32 w.heap.size _ _ _ (strs (L.drop (c))) (by rfl) (HBk.out _ b34) (strs_one _) (by unfold maxLen; omega) (by omega) b34.size ?_
              intro v35 wq36 hm37 hr38
              have b39 := b34.grown hr38.grown b34.size (fun g hg => (hm32.lt g hg).1)
              refine hK _ _ (fun _ => trivial) ?_
              clear hK K
              try simp only [Act.put, List.setIfInBounds_toArray, List.set_cons_zero, List.set_cons_succ]
              refine wpAnyT_all (rs := [12]) (by kernel_rfl) (by simp) ?_
              intro ix hix
              simp only [List.mem_cons, List.not_mem_nil, or_false] at hix
              subst hix
              refine wpT_op (o := _) (by rfl) (fun K hK => ?_)
              try go_simp
              refine hK _ _ (fun h => absurd h (by omega)) ?_
              clear hK K
              refine wpAnyT_done (by kernel_rfl) ?_ _
              have HMz := Lib.hid hm37
              have HBz := Lib.hid b39
              clear hm37 b39
              go_wp2
              go_ret
              exact ins_post HL.out (by omega) (by rw [Nat.sub_self]; exact HMz.out) HBz.out HE.out
          · refine wpT_op (o := _) (by rfl) (fun K hK => ?_)
            go_simp
            have b40 := b0.alloc b0.size (.cells #[.string (bt x)] 9)
            have hl41 : (w.drew.alloc (.cells #[.string (bt x)] 9)).cell? ⟨w.heap.size, 0, none⟩ = some (.string (bt x)) := World.cell?_alloc_at _ _ _ _ (by simp)
            refine hK _ _ (fun _ => trivial) ?_
            clear hK K
            try simp only [Act.put, List.setIfInBounds_toArray, List.set_cons_zero, List.set_cons_succ]
            refine wpAnyT_all (rs := [0]) (by kernel_rfl) (by simp) ?_
            intro ix hix
            simp only [List.mem_cons, List.not_mem_nil, or_false] at hix
            subst hix
            refine wpT_op (o := _) (by rfl) (fun K hK => ?_)
            go_simp
            have b42 := b40.alloc b40.size (.cells #[] 9)
            have m43 : Mid ((w.drew.alloc (.cells #[.string (bt x)] 9)).alloc (.cells #[] 9)) w.heap.size 9 1 (.slice (some ⟨w.heap.size + 1, 0, none⟩) 0 0) 0 [] := by
              have h := Mid.empty (w := (w.drew.alloc (.cells #[.string (bt x)] 9))) (base := w.heap.size) (t := 9) b40.size
              have e : (w.drew.alloc (.cells #[.string (bt x)] 9)).heap.size = w.heap.size + 1 := by simp
              rw [e] at h; exact h
            have hl44 : ((w.drew.alloc (.cells #[.string (bt x)] 9)).alloc (.cells #[] 9)).cell? ⟨w.heap.size, 0, none⟩ = some (.string (bt x)) := (World.cell?_alloc_lt _ _ _ (by simp)).trans hl41
            refine hK _ _ (fun _ => trivial) ?_
            clear hK K
            try simp only [Act.put, List.setIfInBounds_toArray, List.set_cons_zero, List.set_cons_succ]
            refine wpAnyT_all (rs := [4]) (by kernel_rfl) (by simp) ?_
            intro ix hix
            simp only [List.mem_cons, List.not_mem_nil, or_false] at hix
            subst hix
            refine wpT_op (o := _) (by rfl) (fun K hK => ?_)
            refine step_append_src (by rfl) _ _ _ (by rfl) w.heap.size 9 i0 _ 1 16 Try.underlying22 hi0 hz0 hz1 hz2 rfl (by omega) (.slice (some ⟨w.heap.size + 1, 0, none⟩) 0 0) (0) ([]) (by rfl) m43 w.heap.size _ _ _ (strs (L.take (c))) (by rfl) (HA.out _ b42) (strs_one _) (by unfold maxLen; omega) (by omega) b42.size ?_
            intro v45 wq46 hm47 hr48
            have b49 := b42.grown hr48.grown b42.size (fun g hg => (m43.lt g hg).1)
            have hl50 := ran_cell hr48 m43 hl44 (by simp [Value.ownBlock])
            refine hK _ _ (fun _ => trivial) ?_
            clear hK K
            try simp only [Act.put, List.setIfInBounds_toArray, List.set_cons_zero, List.set_cons_succ]
            refine wpAnyT_all (rs := [7]) (by kernel_rfl) (by simp) ?_
            intro ix hix
            simp only [List.mem_cons, List.not_mem_nil, or_false] at hix
            subst hix
            refine wpT_op (o := _) (by rfl) (fun K hK => ?_)
            refine step_append_mid (by rfl) _ _ _ (by rfl) w.heap.size 9 i0 _ 1 16 Try.underlying22 hi0 hz0 hz1 hz2 rfl (by omega) v45 (0 + c) ([] ++ strs (L.take (c))) (by rfl) hm47 ⟨w.heap.size, 0, none⟩ 1 1 [.string (bt x)] (by rfl) (by rfl) (news_one hl50) (by simp [Value.oneCell']) (by unfold maxLen; omega) (by omega) b49.size ?_
            intro v51 wq52 hm53 hr54
            have b55 := b49.grown hr54.grown b49.size (fun g hg => (hm47.lt g hg).1)
            refine hK _ _ (fun _ => trivial) ?_
            clear hK K
            try simp only [Act.put, List.setIfInBounds_toArray, List.set_cons_zero, List.set_cons_succ]
            refine wpAnyT_all (rs := [11]) (by kernel_rfl) (by simp) ?_
            intro ix hix
            simp only [List.mem_cons, List.not_mem_nil, or_false] at hix
            subst hix
            refine wpT_op (o := _) (by rfl) (fun K hK => ?_)
            refine step_append_src (by rfl) _ _ _ (by rfl) w.heap.size 9 i0 _ 1 16 Try.underlying22 hi0 hz0 hz1 hz2 rfl (by omega) v51 (0 + c + 1) ([] ++ strs (L.take (c)) ++ [.string (bt x)]) (by rfl) hm53 w.heap.size _ _ _ (strs (L.drop (c))) (by rfl) (HBk.out _ b55) (strs_one _) (by unfold maxLen; omega) (by omega) b55.size ?_
            intro v56 wq57 hm58 hr59
            have b60 := b55.grown hr59.grown b55.size (fun g hg => (hm53.lt g hg).1)
            refine hK _ _ (fun _ => trivial) ?_
            clear hK K
            try simp only [Act.put, List.setIfInBounds_toArray, List.set_cons_zero, List.set_cons_succ]
            refine wpAnyT_all (rs := [12]) (by kernel_rfl) (by simp) ?_
            intro ix hix
            simp only [List.mem_cons, List.not_mem_nil, or_false] at hix
            subst hix
            refine wpT_op (o := _) (by rfl) (fun K hK => ?_)
            try go_simp
            refine hK _ _ (fun h => absurd h (by omega)) ?_
            clear hK K
            refine wpAnyT_done (by kernel_rfl) ?_ _
            have HMz := Lib.hid hm58
            have HBz := Lib.hid b60
            clear hm58 b60
            go_wp2
            go_ret
            exact ins_post HL.out (by omega) (by rw [Nat.sub_self]; exact HMz.out) HBz.out HE.out
      · cases A with
        | none => exact absurd (HA0.out rfl) (by omega)
        | some ad =>
          go_wp2
          have HA : Hid (∀ w', Below w.heap.size w w' → Reads w' w.heap.size 1 (some ad) (n) (strs (L.take (n)))) := Lib.hid (fun w' hb => ((HR.out.below hb).take_s (k := n) (by omega)))
          have HBk : Hid (∀ w', Below w.heap.size w w' → Reads w' w.heap.size 1 (some (ad.add n)) 0 (strs (L.drop (n)))) := Lib.hid (fun w' hb => by have := (HR.out.below hb).drop_s (k := n) (c := c) (by omega) (by omega); rw [if_neg hcn, Nat.sub_self] at this; exact this)
          refine wp_region_T (fun _ => True) 12 (by kernel_rfl) ?_
          have hS : True := trivial
          refine wpAnyT_take (i := 1) (oi := _) (v := ?_) (by rfl) (by kernel_rfl) (by intro _ _ _ h; exact h) hS (Or.inl ⟨by rfl, ?_⟩) ?_
          rotate_left 1
          · intro w' hS'
            go_simp
            all_goals with_reducible rfl
          simp only [Act.put, List.setIfInBounds_toArray, List.set_cons_zero, List.set_cons_succ]
          refine wpAnyT_take (i := 2) (oi := _) (v := ?_) (by rfl) (by kernel_rfl) (by intro _ _ _ h; exact h) hS (Or.inl ⟨by rfl, ?_⟩) ?_
          rotate_left 1
          · intro w' hS'
            go_simp
            all_goals with_reducible rfl
          simp only [Act.put, List.setIfInBounds_toArray, List.set_cons_zero, List.set_cons_succ]
          refine wpAnyT_take (i := 3) (oi := _) (v := ?_) (by rfl) (by kernel_rfl) (by intro _ _ _ h; exact h) hS (Or.inl ⟨by rfl, ?_⟩) ?_
          rotate_left 1
          · intro w' hS'
            go_simp
            all_goals with_reducible rfl
          simp only [Act.put, List.setIfInBounds_toArray, List.set_cons_zero, List.set_cons_succ]
          refine wpAnyT_take (i := 5) (oi := _) (v := ?_) (by rfl) (by kernel_rfl) (by intro _ _ _ h; exact h) hS (Or.inl ⟨by rfl, ?_⟩) ?_
          rotate_left 1
          · intro w' hS'
            go_simp
            all_goals with_reducible rfl
          simp only [Act.put, List.setIfInBounds_toArray, List.set_cons_zero, List.set_cons_succ]
          refine wpAnyT_take (i := 8) (oi := _) (v := ?_) (by rfl) (by kernel_rfl) (by intro _ _ _ h; exact h) hS (Or.inl ⟨by rfl, ?_⟩) ?_
          rotate_left 1
          · intro w' hS'
            go_simp
            all_goals with_reducible rfl
          simp only [Act.put, List.setIfInBounds_toArray, List.set_cons_zero, List.set_cons_succ]
          refine wpAnyT_take (i := 9) (oi := _) (v := ?_) (by rfl) (by kernel_rfl) (by intro _ _ _ h; exact h) hS (Or.inl ⟨by rfl, ?_⟩) ?_
          rotate_left 1
          · intro w' hS'
            go_simp
            all_goals with_reducible rfl
          simp only [Act.put, List.setIfInBounds_toArray, List.set_cons_zero, List.set_cons_succ]
          refine wpAnyT_take (i := 10) (oi := _) (v := ?_) (by rfl) (by kernel_rfl) (by intro _ _ _ h; exact h) hS (Or.inl ⟨by rfl, ?_⟩) ?_
          rotate_left 1
          · intro w' hS'
            go_simp
            all_goals with_reducible rfl
          simp only [Act.put, List.setIfInBounds_toArray, List.set_cons_zero, List.set_cons_succ]
          have b0 : Below w.heap.size w w.drew := (Below.refl _ _).drew
          refine wpAnyT_all (rs := [0, 6]) (by kernel_rfl) (by simp) ?_
          intro ix hix
          simp only [List.mem_cons, List.not_mem_nil, or_false] at hix
          rcases hix with rfl | rfl
          · refine wpT_op (o := _) (by rfl) (fun K hK => ?_)
            go_simp
            have b1 := b0.alloc b0.size (.cells #[] 9)
            have m2 : Mid (w.drew.alloc (.cells #[] 9)) w.heap.size 9 1 (.slice (some ⟨w.heap.size, 0, none⟩) 0 0) 0 [] := by
              have h := Mid.empty (w := w.drew) (base := w.heap.size) (t := 9) b0.size
              have e : w.drew.heap.size = w.heap.size := by simp
              rw [e] at h; exact h
            refine hK _ _ (fun _ => trivial) ?_
            clear hK K
            try simp only [Act.put, List.setIfInBounds_toArray, List.set_cons_zero, List.set_cons_succ]
            refine wpAnyT_all (rs := [4, 6]) (by kernel_rfl) (by simp) ?_
            intro ix hix
            simp only [List.mem_cons, List.not_mem_nil, or_false] at hix
            rcases hix with rfl | rfl
            · refine wpT_op (o := _) (by rfl) (fun K hK => ?_)
              refine step_append_src (by rfl) _ _ _ (by rfl) w.heap.size 9 i0 _ 1 16 Try.underlying22 hi0 hz0 hz1 hz2 rfl (by omega) (.slice (some ⟨w.heap.size, 0, none⟩) 0 0) (0) ([]) (by rfl) m2 w.heap.size _ _ _ (strs (L.take (n))) (by rfl) (HA.out _ b1) (strs_one _) (by unfold maxLen; omega) (by omega) b1.size ?_
              intro v3 wq4 hm5 hr6
              have b7 := b1.grown hr6.grown b1.size (fun g hg => (m2.lt g hg).1)
              refine hK _ _ (fun _ => trivial) ?_
              clear hK K
              try simp only [Act.put, List.setIfInBounds_toArray, List.set_cons_zero, List.set_cons_succ]
              refine wpAnyT_all (rs := [6]) (by kernel_rfl) (by simp) ?_
              intro ix hix
              simp only [List.mem_cons, List.not_mem_nil, or_false] at hix
              subst hix
              refine wpT_op (o := _) (by rfl) (fun K hK => ?_)
              go_simp
              have b8 := b7.alloc b7.size (.cells #[.string (bt x)] 9)
              have hl9 : (wq4.alloc (.cells #[.string (bt x)] 9)).cell? ⟨wq4.heap.size, 0, none⟩ = some (.string (bt x)) := World.cell?_alloc_at _ _ _ _ (by simp)
              have m10 := Mid.alloc_ hm5 (.cells #[.string (bt x)] 9)
              refine hK _ _ (fun _ => trivial) ?_
              clear hK K
              try simp only [Act.put, List.setIfInBounds_toArray, List.set_cons_zero, List.set_cons_succ]
              refine wpAnyT_all (rs := [7]) (by kernel_rfl) (by simp) ?_
              intro ix hix
              simp only [List.mem_cons, List.not_mem_nil, or_false] at hix
              subst hix
              refine wpT_op (o := _) (by rfl) (fun K hK => ?_)
              refine step_append_mid (by rfl) _ _ _ (by rfl) w.heap.size 9 i0 _ 1 16 Try.underlying22 hi0 hz0 hz1 hz2 rfl (by omega) v3 (0 + n) ([] ++ strs (L.take (n))) (by rfl) m10 ⟨wq4.heap.size, 0, none⟩ 1 1 [.string (bt x)] (by rfl) (by rfl) (news_one hl9) (by simp [Value.oneCell']) (by unfold maxLen; omega) (by omega) b8.size ?_
              intro v11 wq12 hm13 hr14
              have b15 := b8.grown hr14.grown b8.size (fun g hg => (m10.lt g hg).1)
              refine hK _ _ (fun _ => trivial) ?_
              clear hK K
              try simp only [Act.put, List.setIfInBounds_toArray, List.set_cons_zero, List.set_cons_succ]
              refine wpAnyT_all (rs := [11]) (by kernel_rfl) (by simp) ?_
              intro ix hix
              simp only [List.mem_cons, List.not_mem_nil, or_false] at hix
              subst hix
              refine wpT_op (o := _) (by rfl) (fun K hK => ?_)
              refine step_append_src (by rfl) _ _ _ (by rfl) w.heap.size 9 i0 _ 1 16 Try.underlying22 hi0 hz0 hz1 hz2 rfl (by omega) v11 (0 + n + 1) ([] ++ strs (L.take (n)) ++ [.string (bt x)]) (by rfl) hm13 w.heap.size _ _ _ (strs (L.drop (n))) (by rfl) (HBk.out _ b15) (strs_one _) (by unfold maxLen; omega) (by omega) b15.size ?_
              intro v16 wq17 hm18 hr19
              have b20 := b15.grown hr19.grown b15.size (fun g hg => (hm13.lt g hg).1)
              refine hK _ _ (fun _ => trivial) ?_
              clear hK K
              try simp only [Act.put, List.setIfInBounds_toArray, List.set_cons_zero, List.set_cons_succ]
              refine wpAnyT_all (rs := [12]) (by kernel_rfl) (by simp) ?_
              intro ix hix
              simp only [List.mem_cons, List.not_mem_nil, or_false] at hix
              subst hix
              refine wpT_op (o := _) (by rfl) (fun K hK => ?_)
              try go_simp
              refine hK _ _ (fun h => absurd h (by omega)) ?_
              clear hK K
              refine wpAnyT_done (by kernel_rfl) ?_ _
              have HMz := Lib.hid hm18
              have HBz := Lib.hid b20
              clear hm18 b20
              go_wp2
              go_ret
              exact ins_post HL.out (by omega) (by rw [Nat.sub_self]; exact HMz.out) HBz.out HE.out
            · refine wpT_op (o := _) (by rfl) (fun K hK => ?_)
              go_simp
              have b21 := b1.alloc b1.size (.cells #[.string (bt x)] 9)
              have hl22 : ((w.drew.alloc (.cells #[] 9)).alloc (.cells #[.string (bt x)] 9)).cell? ⟨w.heap.size + 1, 0, none⟩ = some (.string (bt x)) := World.cell?_alloc_at _ _ _ _ (by simp)
              have m23 := Mid.alloc_ m2 (.cells #[.string (bt x)] 9)
              refine hK _ _ (fun _ => trivial) ?_
              clear hK K
              try simp only [Act.put, List.setIfInBounds_toArray, List.set_cons_zero, List.set_cons_succ]
              refine wpAnyT_all (rs := [4]) (by kernel_rfl) (by simp) ?_
              intro ix hix
              simp only [List.mem_cons, List.not_mem_nil, or_false] at hix
              subst hix
              refine wpT_op (o := _) (by rfl) (fun K hK => ?_)
              refine step_append_src (by rfl) _ _ _ (by rfl) w.heap.size 9 i0 _ 1 16 Try.underlying22 hi0 hz0 hz1 hz2 rfl (by omega) (.slice (some ⟨w.heap.size, 0, none⟩) 0 0) (0) ([]) (by rfl) m23 w.heap.size _ _ _ (strs (L.take (n))) (by rfl) (HA.out _ b21) (strs_one _) (by unfold maxLen; omega) (by omega) b21.size ?_
              intro v24 wq25 hm26 hr27
              have b28 := b21.grown hr27.grown b21.size (fun g hg => (m23.lt g hg).1)
              have hl29 := ran_cell hr27 m23 hl22 (by simp [Value.ownBlock])
              refine hK _ _ (fun _ => trivial) ?_
              clear hK K
              try simp only [Act.put, List.setIfInBounds_toArray, List.set_cons_zero, List.set_cons_succ]
              refine wpAnyT_all (rs := [7]) (by kernel_rfl) (by simp) ?_
              intro ix hix
              simp only [List.mem_cons, List.not_mem_nil, or_false] at hix
              subst hix
              refine wpT_op (o := _) (by rfl) (fun K hK => ?_)
              refine step_append_mid (by rfl) _ _ _ (by rfl) w.heap.size 9 i0 _ 1 16 Try.underlying22 hi0 hz0 hz1 hz2 rfl (by omega) v24 (0 + n) ([] ++ strs (L.take (n))) (by rfl) hm26 ⟨w.heap.size + 1, 0, none⟩ 1 1 [.string (bt x)] (by rfl) (by rfl) (news_one hl29) (by simp [Value.oneCell']) (by unfold maxLen; omega) (by omega) b28.size ?_
              intro v30 wq31 hm32 hr33
              have b34 := b28.grown hr33.grown b28.size (fun g hg => (hm26.lt g hg).1)
              refine hK _ _ (fun _ => trivial) ?_
              clear hK K
              try simp only [Act.put, List.setIfInBounds_toArray, List.set_cons_zero, List.set_cons_succ]
              refine wpAnyT_all (rs := [11]) (by kernel_rfl) (by simp) ?_
              intro ix hix
              simp only [List.mem_cons, List.not_mem_nil, or_false] at hix
              subst hix
              refine wpT_op (o := _) (by rfl) (fun K hK => ?_)
              refine step_append_src (by rfl) _ _ _ (by rfl) w.heap.size 9 i0 _ 1 16 Try.underlying22 hi0 hz0 hz1 hz2 rfl (by omega) v30 (0 + n + 1) ([] ++ strs (L.take (n)) ++ [.string (bt x)]) (by rfl) hm32 w.heap.size _ _ _ (strs (L.drop (n))) (by rfl) (HBk.out _ b34) (strs_one _) (by unfold maxLen; omega) (by omega) b34.size ?_
              intro v35 wq36 hm37 hr38
              have b39 := b34.grown hr38.grown b34.size (fun g hg => (hm32.lt g hg).1)
              refine hK _ _ (fun _ => trivial) ?_
              clear hK K
              try simp only [Act.put, List.setIfInBounds_toArray, List.set_cons_zero, List.set_cons_succ]
              refine wpAnyT_all (rs := [12]) (by kernel_rfl) (by simp) ?_
              intro ix hix
              simp only [List.mem_cons, List.not_mem_nil, or_false] at hix
              subst hix
              refine wpT_op (o := _) (by rfl) (fun K hK => ?_)
              try go_simp
              refine hK _ _ (fun h => absurd h (by omega)) ?_
              clear hK K
              refine wpAnyT_done (by kernel_rfl) ?_ _
              have HMz := Lib.hid hm37
              have HBz := Lib.hid b39
              clear hm37 b39
              go_wp2
              go_ret
              exact ins_post HL.out (by omega) (by rw [Nat.sub_self]; exact HMz.out) HBz.out HE.out
          · refine wpT_op (o := _) (by rfl) (fun K hK => ?_)
            go_simp
            have b40 := b0.alloc b0.size (.cells #[.string (bt x)] 9)
            have hl41 : (w.drew.alloc (.cells #[.string (bt x)] 9)).cell? ⟨w.heap.size, 0, none⟩ = some (.string (bt x)) := World.cell?_alloc_at _ _ _ _ (by simp)
            refine hK _ _ (fun _ => trivial) ?_
            clear hK K
            try simp only [Act.put, List.setIfInBounds_toArray, List.set_cons_zero, List.set_cons_succ]
            refine wpAnyT_all (rs := [0]) (by kernel_rfl) (by simp) ?_
            intro ix hix
            simp only [List.mem_cons, List.not_mem_nil, or_false] at hix
            subst hix
            refine wpT_op (o := _) (by rfl) (fun K hK => ?_)
            go_simp
            have b42 := b40.alloc b40.size (.cells #[] 9)
            have m43 : Mid ((w.drew.alloc (.cells #[.string (bt x)] 9)).alloc (.cells #[] 9)) w.heap.size 9 1 (.slice (some ⟨w.heap.size + 1, 0, none⟩) 0 0) 0 [] := by
              have h := Mid.empty (w := (w.drew.alloc (.cells #[.string (bt x)] 9))) (base := w.heap.size) (t := 9) b40.size
              have e : (w.drew.alloc (.cells #[.string (bt x)] 9)).heap.size = w.heap.size + 1 := by simp
              rw [e] at h; exact h
            have hl44 : ((w.drew.alloc (.cells #[.string (bt x)] 9)).alloc (.cells #[] 9)).cell? ⟨w.heap.size, 0, none⟩ = some (.string (bt x)) := (World.cell?_alloc_lt _ _ _ (by simp)).trans hl41
            refine hK _ _ (fun _ => trivial) ?_
            clear hK K
            try simp only [Act.put, List.setIfInBounds_toArray, List.set_cons_zero, List.set_cons_succ]
            refine wpAnyT_all (rs := [4]) (by kernel_rfl) (by simp) ?_
            intro ix hix
            simp only [List.mem_cons, List.not_mem_nil, or_false] at hix
            subst hix
            refine wpT_op (o := _) (by rfl) (fun K hK => ?_)
            refine step_append_src (by rfl) _ _ _ (by rfl) w.heap.size 9 i0 _ 1 16 Try.underlying22 hi0 hz0 hz1 hz2 rfl (by omega) (.slice (some ⟨w.heap.size + 1, 0, none⟩) 0 0) (0) ([]) (by rfl) m43 w.heap.size _ _ _ (strs (L.take (n))) (by rfl) (HA.out _ b42) (strs_one _) (by unfold maxLen; omega) (by omega) b42.size ?_
            intro v45 wq46 hm47 hr48
            have b49 := b42.grown hr48.grown b42.size (fun g hg => (m43.lt g hg).1)
            have hl50 := ran_cell hr48 m43 hl44 (by simp [Value.ownBlock])
            refine hK _ _ (fun _ => trivial) ?_
            clear hK K
            try simp only [Act.put, List.setIfInBounds_toArray, List.set_cons_zero, List.set_cons_succ]
            refine wpAnyT_all (rs := [7]) (by kernel_rfl) (by simp) ?_
            intro ix hix
            simp only [List.mem_cons, List.not_mem_nil, or_false] at hix
            subst hix
            refine wpT_op (o := _) (by rfl) (fun K hK => ?_)
            refine step_append_mid (by rfl) _ _ _ (by rfl) w.heap.size 9 i0 _ 1 16 Try.underlying22 hi0 hz0 hz1 hz2 rfl (by omega) v45 (0 + n) ([] ++ strs (L.take (n))) (by rfl) hm47 ⟨w.heap.size, 0, none⟩ 1 1 [.string (bt x)] (by rfl) (by rfl) (news_one hl50) (by simp [Value.oneCell']) (by unfold maxLen; omega) (by omega) b49.size ?_
            intro v51 wq52 hm53 hr54
            have b55 := b49.grown hr54.grown b49.size (fun g hg => (hm47.lt g hg).1)
            refine hK _ _ (fun _ => trivial) ?_
            clear hK K
            try simp only [Act.put, List.setIfInBounds_toArray, List.set_cons_zero, List.set_cons_succ]
            refine wpAnyT_all (rs := [11]) (by kernel_rfl) (by simp) ?_
            intro ix hix
            simp only [List.mem_cons, List.not_mem_nil, or_false] at hix
            subst hix
            refine wpT_op (o := _) (by rfl) (fun K hK => ?_)
            refine step_append_src (by rfl) _ _ _ (by rfl) w.heap.size 9 i0 _ 1 16 Try.underlying22 hi0 hz0 hz1 hz2 rfl (by omega) v51 (0 + n + 1) ([] ++ strs (L.take (n)) ++ [.string (bt x)]) (by rfl) hm53 w.heap.size _ _ _ (strs (L.drop (n))) (by rfl) (HBk.out _ b55) (strs_one _) (by unfold maxLen; omega) (by omega) b55.size ?_
            intro v56 wq57 hm58 hr59
            have b60 := b55.grown hr59.grown b55.size (fun g hg => (hm53.lt g hg).1)
            refine hK _ _ (fun _ => trivial) ?_
            clear hK K
            try simp only [Act.put, List.setIfInBounds_toArray, List.set_cons_zero, List.set_cons_succ]
            refine wpAnyT_all (rs := [12]) (by kernel_rfl) (by simp) ?_
            intro ix hix
            simp only [List.mem_cons, List.not_mem_nil, or_false] at hix
            subst hix
            refine wpT_op (o := _) (by rfl) (fun K hK => ?_)
            try go_simp
            refine hK _ _ (fun h => absurd h (by omega)) ?_
            clear hK K
            refine wpAnyT_done (by kernel_rfl) ?_ _
            have HMz := Lib.hid hm58
            have HBz := Lib.hid b60
            clear hm58 b60
            go_wp2
            go_ret
            exact ins_post HL.out (by omega) (by rw [Nat.sub_self]; exact HMz.out) HBz.out HE.out
end Go.Proofs.Ytoffibcplbfokaa
