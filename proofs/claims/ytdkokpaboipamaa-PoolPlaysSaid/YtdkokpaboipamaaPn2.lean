/-
  The document's own pool: Put onto a list; conditions: sizes.
-/
import Derived.Test.YtdkokpaboipamaaPn1
import Derived.Test.YtdkokpaboipamaaAnyT
import Derived.Test.YtdkokpaboipamaaSrc
import Derived.BigRegion
namespace Go.Proofs.Ytdkokpaboipamaa
open Go.RowKit Go.WideShapes Go.ChangeShapes
set_option linter.all false
attribute [local go_sem ↓] Go.wp_at_zero Go.wp_at_succ
theorem below_next {ys : List Int} {n : Int} {i : Nat} (h : ∀ m, m < i → ys.getD m 0 < n) (hi : ys.getD i 0 < n) : ∀ m, m < i + 1 → ys.getD m 0 < n := by
  intro m hm
  rcases Nat.lt_or_ge m i with h' | h'
  · exact h m h'
  · obtain rfl : m = i := by omega
    exact hi
theorem ints_one (xs : List Int) : ∀ u ∈ ints xs, u.oneCell' = true := by
  intro u hu
  obtain ⟨x, _, rfl⟩ := List.mem_map.1 hu
  rfl
theorem mid_empty (w : World) (B : Nat) (hB : B ≤ w.heap.size) : Mid (w.alloc (.cells #[] 3)) B 3 1 (.slice (some ⟨w.heap.size, 0, none⟩) 0 0) 0 [] :=
  ⟨by simp, .inr ⟨w.heap.size, 0, 0, #[], rfl, hB, heap_alloc_new w _, Nat.le_refl _, Nat.zero_le _, by simp, rfl⟩⟩
theorem Mid.alloc {w : World} {B n : Nat} {v : Value} {xs : List Value} (h : Mid w B 3 1 v n xs) (o : Obj) : Mid (w.alloc o) B 3 1 v n xs := h.same fun g hg => Below.heap_alloc w o g (h.lt g hg).2
theorem Ran.cell {w w' : World} {v v' : Value} (h : Ran v v' w w') (a : Addr) (hl : a.block < w.heap.size) (hn : some a.block ≠ v.ownBlock) {u : Value} (hc : w.cell? a = some u) : w'.cell? a = some u := (h.grown.cell_far a hl hn).trans hc
/-- Q's list at A is the same cells yet, Q is as it was. -/
structure Hd (w0 : World) (Q L c : Nat) (A : Option Addr) (ys : List Int) (w : World) : Prop where
  c1 : w.cell? ⟨Q, 1, none⟩ = some (.slice A L c)
  f1 : w.frozen? ⟨Q, 1, none⟩ = false
  rd : Reads w w0.heap.size 1 A L (ints ys)
  bel : Below w0.heap.size w0 w
  lq : Q < w0.heap.size
theorem Hd.alloc {w0 w : World} {Q L c : Nat} {A : Option Addr} {ys : List Int} (h : Hd w0 Q L c A ys w) (o : Obj) : Hd w0 Q L c A ys (w.alloc o) := by
  have hb := h.bel.alloc h.bel.size o
  have hs := h.bel.size
  have hl := h.lq
  have hb1 : Below w.heap.size w (w.alloc o) := (Below.refl _ _).alloc (Nat.le_refl _) o
  exact ⟨(hb1.cell (p := ⟨Q, 1, none⟩) (by show Q < _; omega)).trans h.c1, (hb1.frozen (p := ⟨Q, 1, none⟩) (by show Q < _; omega)).trans h.f1, h.rd.alloc hs o, hb, hl⟩
theorem Hd.ran {w0 w w' : World} {Q L c n : Nat} {A : Option Addr} {ys : List Int} {v v' : Value} {xs : List Value} (h : Hd w0 Q L c A ys w) (hm : Mid w w0.heap.size 3 1 v n xs) (hr : Ran v v' w w') : Hd w0 Q L c A ys w' := by
  have hs := h.bel.size
  have hl := h.lq
  have hq : some Q ≠ v.ownBlock := fun e => by have := (hm.lt Q e.symm).1; omega
  exact ⟨(hr.grown.cell_far _ (by show Q < _; omega) hq).trans h.c1, (hr.grown.frozen_far _ (by show Q < _; omega) hq).trans h.f1, h.rd.grown hr.grown hs fun g hg => (hm.lt g hg).1, h.bel.grown hr.grown hs fun g hg => (hm.lt g hg).1, hl⟩
theorem Reads.head' : True := trivial
theorem info3' : (Try.prog.info? 3).map (fun i => (i.zero, i.size, i.bytes)) = some (some (.int .i64 0), 1, 8) := by kernel_rfl
/-- Behind a Put: Q's list reads zs. -/
def Put1 (w0 : World) (Q : Nat) (zs : List Int) (w' : World) : Prop := ∃ w v, Below w0.heap.size w0 w ∧ Mid w w0.heap.size 3 1 v zs.length (ints zs) ∧ w' = w.setCell ⟨Q, 1, none⟩ v
theorem getD_mem' (xs : List Int) (i : Nat) (h : i < xs.length) : xs.getD i 0 ∈ xs := by
  rw [List.getD_eq_getElem?_getD, List.getElem?_eq_getElem h]; exact List.getElem_mem _
/-- Behind a Put of n: Q's list is the list with n in its place. -/
def PutOk (Q : Nat) (w : World) (n : Int) (ys : List Int) (w' : World) : Prop :=
  ∃ i w5 A5 c5, i ≤ ys.length ∧ (∀ m, m < i → ys.getD m 0 < n) ∧ (i < ys.length → n < ys.getD i 0) ∧ Below w.heap.size w w5 ∧ w5.cell? ⟨Q, 1, none⟩ = w.cell? ⟨Q, 1, none⟩ ∧ Mid w5 w.heap.size 3 1 (.slice A5 (ys.length + 1) c5) (ys.length + 1) (ints (insF ys n i)) ∧
    w' = w5.setCell ⟨Q, 1, none⟩ (.slice A5 (ys.length + 1) c5)
theorem fin_ok {Q L c i N1 N2 : Nat} {w w5 : World} {n : Int} {ys : List Int} {A A5 : Option Addr} {c5 : Nat} (hd : Hd w Q L c A ys w5) (hc : w.cell? ⟨Q, 1, none⟩ = some (.slice A L c)) (hL : ys.length = L) (hi : i ≤ L) (hb : ∀ m, m < i → ys.getD m 0 < n) (ha : i < L → n < ys.getD i 0)
    (hm : Mid w5 w.heap.size 3 1 (.slice A5 N1 c5) N1 ([] ++ ints (ys.take i) ++ [.int .i64 n] ++ ints (ys.drop i))) (h1 : N1 = ys.length + 1) (h2 : N2 = ys.length + 1) : PutOk Q w n ys (w5.setCell ⟨Q, 1, none⟩ (.slice A5 N2 c5)) := by
  have e2 : [] ++ ints (ys.take i) ++ [.int .i64 n] ++ ints (ys.drop i) = ints (insF ys n i) := by unfold insF; rw [ints_append, ints_append, List.nil_append]; rfl
  subst h1
  subst h2
  rw [e2] at hm
  exact ⟨i, w5, A5, c5, by omega, hb, by rw [hL]; exact ha, hd.bel, hd.c1.trans hc.symm, hm, rfl⟩
set_option maxRecDepth 100000 in
set_option maxHeartbeats 1600000 in
theorem rput_in (Q : Nat) (most n : Int) (A : Option Addr) (c : Nat) (ys : List Int) (w : World) (h : RefP Q 0 most A c ys w) (hlen : ys.length < 900000) (h0 : 0 ≤ n) (h9 : n < most) (hne : n ∉ ys) :
    Calls Try.prog 22 #[.pointer (some ⟨Q, 0, none⟩), .int .i64 n] w fun e w' => e = .returned (.bool true) ∧ PutOk Q w n ys w' := by
  obtain ⟨i0, hi0, hz0, hz1, hz2⟩ := info_parts info3'
  have hc0 := h.c0
  have h1 := h.c1
  have hf := h.f1
  have hcap := h.cap
  have hrd := h.rd
  have hn1 : ¬ n < 0 := by omega
  have hn2 : ¬ (n ≥ most) := by omega
  generalize hL : ys.length = L at *
  have HL := Lib.hid hL
  have lQ := World.block_lt_of_cell? _ _ hc0
  have HHd : Hid (Hd w Q L c A ys w) := Lib.hid ⟨h1, hf, hrd, Below.refl _ _, lQ⟩
  have HNE : Hid (∀ y, y ∈ ys → y ≠ n) := Lib.hid (fun y hy e => hne (e ▸ hy))
  clear hL h hne
  go_enter Try.func22, Try.ntmps22
  go_wp2
  go_loop [5] (fun j => ∃ i : Nat, i ≤ L ∧ j = .int .i64 i ∧ Hid (∀ m, m < i → ys.getD m 0 < n)) (fun j => L - (intOf j).toNat)
  case atStart => exact ⟨0, by omega, rfl, Lib.hid (by omega)⟩
  case round =>
    obtain ⟨i, hi, rfl, HI⟩ := hrel
    by_cases hlt : i < L
    · obtain ⟨ad, u, rfl, hb, hu, hc⟩ := hrd.at_ hlt
      rw [ints_at ys i (by rw [HL.out]; exact hlt)] at hu
      injection hu with hu
      rw [← hu] at hc
      clear hu
      generalize hy : ys.getD i 0 = y at *
      have HY := Lib.hid hy
      clear hy
      by_cases hyn : y < n
      · go_wp2
        go_round
        case rel => exact ⟨i + 1, by omega, by go_num, Lib.hid (below_next HI.out (by rw [HY.out]; exact hyn))⟩
        case measure => simp only [intOf]; omega
      · by_cases hye : y = n
        · exact absurd hye (HNE.out y (by rw [← HY.out]; exact getD_mem' ys i (by rw [HL.out]; exact hlt)))
        · have hye1 : (y == n) = false := by simp [hye]
          clear hye
          go_wp2
          have hci : ¬ (c = i) := by omega
          have g1 : (i : Int) ≤ L := by omega
          have g2 : (i : Int) ≤ c := by omega
          have g3 : (0 : Int) ≤ i := by omega
          have g4 : (L : Int) ≤ c := by omega
          clear hc hb hrd
          have HA : Hid (∀ w', Hd w Q L c (some ad) ys w' → Reads w' w.heap.size 1 (some ad) i (ints (ys.take i))) := Lib.hid (fun w' hd => by have := hd.rd.head (k := i) hi; unfold ints at this ⊢; rwa [Nat.mul_one, ← List.map_take] at this)
          have HB : Hid (∀ w', Hd w Q L c (some ad) ys w' → Reads w' w.heap.size 1 (some (ad.add i)) (L - i) (ints (ys.drop i))) := Lib.hid (fun w' hd => by have := hd.rd.cut (k := i) (cap := c) hi hcap; rw [if_neg hci, Nat.mul_one] at this; unfold ints at this ⊢; rwa [← List.map_drop] at this)
          have HNy : Hid (n < ys.getD i 0) := Lib.hid (by have := HNE.out y (by rw [← HY.out]; exact getD_mem' ys i (by rw [HL.out]; exact hlt)); rw [HY.out]; omega)
          refine wp_region_T (fun w' => w'.cell? ⟨Q, 1, none⟩ = some (.slice (some ad) L c)) 21 (by kernel_rfl) ?_
          have hS : w.drew.cell? ⟨Q, 1, none⟩ = some (.slice (some ad) L c) := h1
          refine wpAnyT_take (i := 0) (oi := _) (v := ?_) (by rfl) (by kernel_rfl) (by intro _ _ _ h; exact h) hS (Or.inl ⟨by rfl, ?_⟩) ?_
          rotate_left 1
          · intro w' hS'
            go_simp
            all_goals with_reducible rfl
          simp only [Act.put, List.setIfInBounds_toArray, List.set_cons_zero, List.set_cons_succ]
          refine wpAnyT_take (i := 2) (oi := _) (v := ?_) (by rfl) (by kernel_rfl) (by intro _ _ _ h; exact h) hS (Or.inl ⟨by rfl, ?_⟩) ?_
          rotate_left 1
          · intro w' hS'
            go_simp
            all_goals with_reducible rfl
          simp only [Act.put, List.setIfInBounds_toArray, List.set_cons_zero, List.set_cons_succ]
          refine wpAnyT_take (i := 3) (oi := _) (v := ?_) (by rfl) (by kernel_rfl) (by intro _ _ _ h; exact h) hS (Or.inl ⟨by rfl, ?_⟩) ?_
          rotate_left 1
          · intro w' hS'
            go_simp
            all_goals with_reducible rfl
          simp only [Act.put, List.setIfInBounds_toArray, List.set_cons_zero, List.set_cons_succ]
          refine wpAnyT_take (i := 4) (oi := _) (v := ?_) (by rfl) (by kernel_rfl) (by intro _ _ _ h; exact h) hS (Or.inl ⟨by rfl, ?_⟩) ?_
          rotate_left 1
          · intro w' hS'
            go_simp
            all_goals with_reducible rfl
          simp only [Act.put, List.setIfInBounds_toArray, List.set_cons_zero, List.set_cons_succ]
          refine wpAnyT_take (i := 5) (oi := _) (v := ?_) (by rfl) (by kernel_rfl) (by intro _ _ _ h; exact h) hS (Or.inl ⟨by rfl, ?_⟩) ?_
          rotate_left 1
          · intro w' hS'
            go_simp
            all_goals with_reducible rfl
          simp only [Act.put, List.setIfInBounds_toArray, List.set_cons_zero, List.set_cons_succ]
          refine wpAnyT_take (i := 6) (oi := _) (v := ?_) (by rfl) (by kernel_rfl) (by intro _ _ _ h; exact h) hS (Or.inl ⟨by rfl, ?_⟩) ?_
          rotate_left 1
          · intro w' hS'
            go_simp
            all_goals with_reducible rfl
          simp only [Act.put, List.setIfInBounds_toArray, List.set_cons_zero, List.set_cons_succ]
          refine wpAnyT_take (i := 7) (oi := _) (v := ?_) (by rfl) (by kernel_rfl) (by intro _ _ _ h; exact h) hS (Or.inl ⟨by rfl, ?_⟩) ?_
          rotate_left 1
          · intro w' hS'
            go_simp
            all_goals with_reducible rfl
          simp only [Act.put, List.setIfInBounds_toArray, List.set_cons_zero, List.set_cons_succ]
          refine wpAnyT_take (i := 9) (oi := _) (v := ?_) (by rfl) (by kernel_rfl) (by intro _ _ _ h; exact h) hS (Or.inl ⟨by rfl, ?_⟩) ?_
          rotate_left 1
          · intro w' hS'
            go_simp
            all_goals with_reducible rfl
          simp only [Act.put, List.setIfInBounds_toArray, List.set_cons_zero, List.set_cons_succ]
          refine wpAnyT_take (i := 12) (oi := _) (v := ?_) (by rfl) (by kernel_rfl) (by intro _ _ _ h; exact h) hS (Or.inl ⟨by rfl, ?_⟩) ?_
          rotate_left 1
          · intro w' hS'
            go_simp
            all_goals with_reducible rfl
          simp only [Act.put, List.setIfInBounds_toArray, List.set_cons_zero, List.set_cons_succ]
          refine wpAnyT_take (i := 13) (oi := _) (v := ?_) (by rfl) (by kernel_rfl) (by intro _ _ _ h; exact h) hS (Or.inl ⟨by rfl, ?_⟩) ?_
          rotate_left 1
          · intro w' hS'
            go_simp
            all_goals with_reducible rfl
          simp only [Act.put, List.setIfInBounds_toArray, List.set_cons_zero, List.set_cons_succ]
          refine wpAnyT_take (i := 14) (oi := _) (v := ?_) (by rfl) (by kernel_rfl) (by intro _ _ _ h; exact h) hS (Or.inl ⟨by rfl, ?_⟩) ?_
          rotate_left 1
          · intro w' hS'
            go_simp
            all_goals with_reducible rfl
          simp only [Act.put, List.setIfInBounds_toArray, List.set_cons_zero, List.set_cons_succ]
          refine wpAnyT_take (i := 15) (oi := _) (v := ?_) (by rfl) (by kernel_rfl) (by intro _ _ _ h; exact h) hS (Or.inl ⟨by rfl, ?_⟩) ?_
          rotate_left 1
          · intro w' hS'
            go_simp
            all_goals with_reducible rfl
          simp only [Act.put, List.setIfInBounds_toArray, List.set_cons_zero, List.set_cons_succ]
          refine wpAnyT_take (i := 16) (oi := _) (v := ?_) (by rfl) (by kernel_rfl) (by intro _ _ _ h; exact h) hS (Or.inl ⟨by rfl, ?_⟩) ?_
          rotate_left 1
          · intro w' hS'
            go_simp
            all_goals with_reducible rfl
          simp only [Act.put, List.setIfInBounds_toArray, List.set_cons_zero, List.set_cons_succ]
          refine wpAnyT_take (i := 17) (oi := _) (v := ?_) (by rfl) (by kernel_rfl) (by intro _ _ _ h; exact h) hS (Or.inl ⟨by rfl, ?_⟩) ?_
          rotate_left 1
          · intro w' hS'
            go_simp
            all_goals with_reducible rfl
          simp only [Act.put, List.setIfInBounds_toArray, List.set_cons_zero, List.set_cons_succ]
          refine wpAnyT_all (rs := [1, 10]) (by kernel_rfl) (by simp) ?_
          intro ix hix
          simp only [List.mem_cons, List.not_mem_nil, or_false] at hix
          have hd0 : Hd w Q L c (some ad) ys w.drew := ⟨HHd.out.c1, HHd.out.f1, HHd.out.rd, HHd.out.bel.drew, HHd.out.lq⟩
          rcases hix with rfl | rfl
          · refine wpT_op (o := _) (by rfl) (fun K hK => ?_)
            go_simp
            have hd1 := hd0.alloc (.cells #[] 3)
            have m1 : Mid (w.drew.alloc (.cells #[] 3)) w.heap.size 3 1 (.slice (some ⟨w.heap.size, 0, none⟩) 0 0) 0 [] := mid_empty w.drew w.heap.size (Nat.le_refl _)
            refine hK _ _ (fun _ => hd1.c1) ?_
            clear hK K
            try simp only [Act.put, List.setIfInBounds_toArray, List.set_cons_zero, List.set_cons_succ]
            refine wpAnyT_all (rs := [8, 10]) (by kernel_rfl) (by simp) ?_
            intro ix hix
            simp only [List.mem_cons, List.not_mem_nil, or_false] at hix
            rcases hix with rfl | rfl
            · refine wpT_op (o := _) (by rfl) (fun K hK => ?_)
              refine step_append_src (by rfl) _ _ _ (by rfl) w.heap.size 3 i0 _ 1 8 Try.underlying44 hi0 hz0 hz1 hz2 rfl (by omega) (.slice (some ⟨w.heap.size, 0, none⟩) 0 0) 0 [] (by rfl) m1 w.heap.size _ _ _ (ints (ys.take i)) (by rfl) (HA.out _ hd1) (ints_one _) (by unfold maxLen; omega) (by omega) hd1.bel.size ?_
              intro v2 w2 hm2 hr2
              have hd2 := hd1.ran m1 hr2
              refine hK _ _ (fun _ => hd2.c1) ?_
              clear hK K
              try simp only [Act.put, List.setIfInBounds_toArray, List.set_cons_zero, List.set_cons_succ]
              refine wpAnyT_all (rs := [10]) (by kernel_rfl) (by simp) ?_
              intro ix hix
              simp only [List.mem_cons, List.not_mem_nil, or_false] at hix
              subst hix
              refine wpT_op (o := _) (by rfl) (fun K hK => ?_)
              go_simp
              have hd3 := hd2.alloc (.cells #[.int .i64 n] 3)
              have m3 := Mid.alloc hm2 (.cells #[.int .i64 n] 3)
              refine hK _ _ (fun _ => hd3.c1) ?_
              clear hK K
              try simp only [Act.put, List.setIfInBounds_toArray, List.set_cons_zero, List.set_cons_succ]
              refine wpAnyT_all (rs := [11]) (by kernel_rfl) (by simp) ?_
              intro ix hix
              simp only [List.mem_cons, List.not_mem_nil, or_false] at hix
              subst hix
              refine wpT_op (o := _) (by rfl) (fun K hK => ?_)
              refine step_append_mid (by rfl) _ _ _ (by rfl) w.heap.size 3 i0 _ 1 8 Try.underlying44 hi0 hz0 hz1 hz2 rfl (by omega) v2 (0 + i) ([] ++ ints (ys.take i)) (by rfl) m3 ⟨w2.heap.size, 0, none⟩ 1 1 [.int .i64 n] (by rfl) (by rfl) (World.news_of_block (cs := #[.int .i64 n]) (t := 3) (fr := (0, 0)) (heap_alloc_new w2 _)) (by simp [Value.oneCell']) (by unfold maxLen; omega) (by omega) hd3.bel.size ?_
              intro v4 w4 hm4 hr4
              have hd4 := hd3.ran m3 hr4
              refine hK _ _ (fun _ => hd4.c1) ?_
              clear hK K
              try simp only [Act.put, List.setIfInBounds_toArray, List.set_cons_zero, List.set_cons_succ]
              refine wpAnyT_all (rs := [18]) (by kernel_rfl) (by simp) ?_
              intro ix hix
              simp only [List.mem_cons, List.not_mem_nil, or_false] at hix
              subst hix
              refine wpT_op (o := _) (by rfl) (fun K hK => ?_)
              refine step_append_src (by rfl) _ _ _ (by rfl) w.heap.size 3 i0 _ 1 8 Try.underlying44 hi0 hz0 hz1 hz2 rfl (by omega) v4 (0 + i + 1) ([] ++ ints (ys.take i) ++ [.int .i64 n]) (by rfl) hm4 w.heap.size _ _ _ (ints (ys.drop i)) (by rfl) (HB.out _ hd4) (ints_one _) (by unfold maxLen; omega) (by omega) hd4.bel.size ?_
              intro v5 w5 hm5 hr5
              obtain ⟨A5, c5, rfl⟩ := hm5.form
              have hd5 := hd4.ran hm4 hr5
              refine hK _ _ (fun _ => hd5.c1) ?_
              clear hK K
              try simp only [Act.put, List.setIfInBounds_toArray, List.set_cons_zero, List.set_cons_succ]
              have hS := hd5.c1
              have f5 := hd5.f1
              refine wpAnyT_take (i := 19) (oi := _) (v := ?_) (by rfl) (by kernel_rfl) (by intro _ _ _ h; exact h) hS (Or.inl ⟨by rfl, ?_⟩) ?_
              rotate_left 1
              · intro w' hS'
                go_simp
                all_goals with_reducible rfl
              simp only [Act.put, List.setIfInBounds_toArray, List.set_cons_zero, List.set_cons_succ]
              refine wpAnyT_take (i := 20) (oi := _) (v := ?_) (by rfl) (by kernel_rfl) (by intro _ _ _ h; exact h) hS (Or.inl ⟨by rfl, ?_⟩) ?_
              rotate_left 1
              · intro w' hS'
                go_simp
                all_goals with_reducible rfl
              simp only [Act.put, List.setIfInBounds_toArray, List.set_cons_zero, List.set_cons_succ]
              refine wpAnyT_all (rs := [21]) (by kernel_rfl) (by simp) ?_
              intro ix hix
              simp only [List.mem_cons, List.not_mem_nil, or_false] at hix
              subst hix
              refine wpT_op (o := _) (by rfl) (fun K hK => ?_)
              try go_simp
              refine hK _ _ (fun h => absurd h (by omega)) ?_
              clear hK K
              refine wpAnyT_done (by kernel_rfl) ?_ _
              have HM5 := Lib.hid hm5
              clear hm5
              go_wp2
              go_ret
              exact ⟨rfl, fin_ok hd5 HHd.out.c1 HL.out hi HI.out (fun _ => HNy.out) HM5.out (by have := HL.out; omega) (by have := HL.out; omega)⟩
            · refine wpT_op (o := _) (by rfl) (fun K hK => ?_)
              go_simp
              have hd2 := hd1.alloc (.cells #[.int .i64 n] 3)
              have m2 := Mid.alloc m1 (.cells #[.int .i64 n] 3)
              have hN2 : ((w.drew.alloc (.cells #[] 3)).alloc (.cells #[.int .i64 n] 3)).cell? ⟨w.heap.size + 1, 0, none⟩ = some (.int .i64 n) := World.cell?_alloc_at _ _ _ _ (by simp)
              refine hK _ _ (fun _ => hd2.c1) ?_
              clear hK K
              try simp only [Act.put, List.setIfInBounds_toArray, List.set_cons_zero, List.set_cons_succ]
              refine wpAnyT_all (rs := [8]) (by kernel_rfl) (by simp) ?_
              intro ix hix
              simp only [List.mem_cons, List.not_mem_nil, or_false] at hix
              subst hix
              refine wpT_op (o := _) (by rfl) (fun K hK => ?_)
              refine step_append_src (by rfl) _ _ _ (by rfl) w.heap.size 3 i0 _ 1 8 Try.underlying44 hi0 hz0 hz1 hz2 rfl (by omega) (.slice (some ⟨w.heap.size, 0, none⟩) 0 0) 0 [] (by rfl) m2 w.heap.size _ _ _ (ints (ys.take i)) (by rfl) (HA.out _ hd2) (ints_one _) (by unfold maxLen; omega) (by omega) hd2.bel.size ?_
              intro v3 w3 hm3 hr3
              have hd3 := hd2.ran m2 hr3
              have hN3 : w3.cell? ⟨w.heap.size + 1, 0, none⟩ = some (.int .i64 n) := hr3.cell _ (by simp <;> omega) (by simp [Value.ownBlock]) hN2
              refine hK _ _ (fun _ => hd3.c1) ?_
              clear hK K
              try simp only [Act.put, List.setIfInBounds_toArray, List.set_cons_zero, List.set_cons_succ]
              refine wpAnyT_all (rs := [11]) (by kernel_rfl) (by simp) ?_
              intro ix hix
              simp only [List.mem_cons, List.not_mem_nil, or_false] at hix
              subst hix
              refine wpT_op (o := _) (by rfl) (fun K hK => ?_)
              refine step_append_mid (by rfl) _ _ _ (by rfl) w.heap.size 3 i0 _ 1 8 Try.underlying44 hi0 hz0 hz1 hz2 rfl (by omega) v3 (0 + i) ([] ++ ints (ys.take i)) (by rfl) hm3 ⟨w.heap.size + 1, 0, none⟩ 1 1 [.int .i64 n] (by rfl) (by rfl) (fun jx ux hj => by rcases jx with _ | jx; (simp only [List.getElem?_cons_zero, Option.some.injEq] at hj; rw [← hj]; exact hN3); simp at hj) (by simp [Value.oneCell']) (by unfold maxLen; omega) (by omega) hd3.bel.size ?_
              intro v4 w4 hm4 hr4
              have hd4 := hd3.ran hm3 hr4
              refine hK _ _ (fun _ => hd4.c1) ?_
              clear hK K
              try simp only [Act.put, List.setIfInBounds_toArray, List.set_cons_zero, List.set_cons_succ]
              refine wpAnyT_all (rs := [18]) (by kernel_rfl) (by simp) ?_
              intro ix hix
              simp only [List.mem_cons, List.not_mem_nil, or_false] at hix
              subst hix
              refine wpT_op (o := _) (by rfl) (fun K hK => ?_)
              refine step_append_src (by rfl) _ _ _ (by rfl) w.heap.size 3 i0 _ 1 8 Try.underlying44 hi0 hz0 hz1 hz2 rfl (by omega) v4 (0 + i + 1) ([] ++ ints (ys.take i) ++ [.int .i64 n]) (by rfl) hm4 w.heap.size _ _ _ (ints (ys.drop i)) (by rfl) (HB.out _ hd4) (ints_one _) (by unfold maxLen; omega) (by omega) hd4.bel.size ?_
              intro v5 w5 hm5 hr5
              obtain ⟨A5, c5, rfl⟩ := hm5.form
              have hd5 := hd4.ran hm4 hr5
              refine hK _ _ (fun _ => hd5.c1) ?_
              clear hK K
              try simp only [Act.put, List.setIfInBounds_toArray, List.set_cons_zero, List.set_cons_succ]
              have hS := hd5.c1
              have f5 := hd5.f1
              refine wpAnyT_take (i := 19) (oi := _) (v := ?_) (by rfl) (by kernel_rfl) (by intro _ _ _ h; exact h) hS (Or.inl ⟨by rfl, ?_⟩) ?_
              rotate_left 1
              · intro w' hS'
                go_simp
                all_goals with_reducible rfl
              simp only [Act.put, List.setIfInBounds_toArray, List.set_cons_zero, List.set_cons_succ]
              refine wpAnyT_take (i := 20) (oi := _) (v := ?_) (by rfl) (by kernel_rfl) (by intro _ _ _ h; exact h) hS (Or.inl ⟨by rfl, ?_⟩) ?_
              rotate_left 1
              · intro w' hS'
                go_simp
                all_goals with_reducible rfl
              simp only [Act.put, List.setIfInBounds_toArray, List.set_cons_zero, List.set_cons_succ]
              refine wpAnyT_all (rs := [21]) (by kernel_rfl) (by simp) ?_
              intro ix hix
              simp only [List.mem_cons, List.not_mem_nil, or_false] at hix
              subst hix
              refine wpT_op (o := _) (by rfl) (fun K hK => ?_)
              try go_simp
              refine hK _ _ (fun h => absurd h (by omega)) ?_
              clear hK K
              refine wpAnyT_done (by kernel_rfl) ?_ _
              have HM5 := Lib.hid hm5
              clear hm5
              go_wp2
              go_ret
              exact ⟨rfl, fin_ok hd5 HHd.out.c1 HL.out hi HI.out (fun _ => HNy.out) HM5.out (by have := HL.out; omega) (by have := HL.out; omega)⟩
          · refine wpT_op (o := _) (by rfl) (fun K hK => ?_)
            go_simp
            have hd1 := hd0.alloc (.cells #[.int .i64 n] 3)
            have hN1 : (w.drew.alloc (.cells #[.int .i64 n] 3)).cell? ⟨w.heap.size, 0, none⟩ = some (.int .i64 n) := World.cell?_alloc_at _ _ _ _ rfl
            refine hK _ _ (fun _ => hd1.c1) ?_
            clear hK K
            try simp only [Act.put, List.setIfInBounds_toArray, List.set_cons_zero, List.set_cons_succ]
            refine wpAnyT_all (rs := [1]) (by kernel_rfl) (by simp) ?_
            intro ix hix
            simp only [List.mem_cons, List.not_mem_nil, or_false] at hix
            subst hix
            refine wpT_op (o := _) (by rfl) (fun K hK => ?_)
            go_simp
            have hd2 := hd1.alloc (.cells #[] 3)
            have m2 : Mid ((w.drew.alloc (.cells #[.int .i64 n] 3)).alloc (.cells #[] 3)) w.heap.size 3 1 (.slice (some ⟨w.heap.size + 1, 0, none⟩) 0 0) 0 [] := by have := mid_empty (w.drew.alloc (.cells #[.int .i64 n] 3)) w.heap.size (by simp); simpa using this
            have hN2 : ((w.drew.alloc (.cells #[.int .i64 n] 3)).alloc (.cells #[] 3)).cell? ⟨w.heap.size, 0, none⟩ = some (.int .i64 n) := (World.cell?_alloc_lt _ _ ⟨w.heap.size, 0, none⟩ (by simp)).trans hN1
            refine hK _ _ (fun _ => hd2.c1) ?_
            clear hK K
            try simp only [Act.put, List.setIfInBounds_toArray, List.set_cons_zero, List.set_cons_succ]
            refine wpAnyT_all (rs := [8]) (by kernel_rfl) (by simp) ?_
            intro ix hix
            simp only [List.mem_cons, List.not_mem_nil, or_false] at hix
            subst hix
            refine wpT_op (o := _) (by rfl) (fun K hK => ?_)
            refine step_append_src (by rfl) _ _ _ (by rfl) w.heap.size 3 i0 _ 1 8 Try.underlying44 hi0 hz0 hz1 hz2 rfl (by omega) (.slice (some ⟨w.heap.size + 1, 0, none⟩) 0 0) 0 [] (by rfl) m2 w.heap.size _ _ _ (ints (ys.take i)) (by rfl) (HA.out _ hd2) (ints_one _) (by unfold maxLen; omega) (by omega) hd2.bel.size ?_
            intro v3 w3 hm3 hr3
            have hd3 := hd2.ran m2 hr3
            have hN3 : w3.cell? ⟨w.heap.size, 0, none⟩ = some (.int .i64 n) := hr3.cell _ (by simp <;> omega) (by simp [Value.ownBlock]) hN2
            refine hK _ _ (fun _ => hd3.c1) ?_
            clear hK K
            try simp only [Act.put, List.setIfInBounds_toArray, List.set_cons_zero, List.set_cons_succ]
            refine wpAnyT_all (rs := [11]) (by kernel_rfl) (by simp) ?_
            intro ix hix
            simp only [List.mem_cons, List.not_mem_nil, or_false] at hix
            subst hix
            refine wpT_op (o := _) (by rfl) (fun K hK => ?_)
            refine step_append_mid (by rfl) _ _ _ (by rfl) w.heap.size 3 i0 _ 1 8 Try.underlying44 hi0 hz0 hz1 hz2 rfl (by omega) v3 (0 + i) ([] ++ ints (ys.take i)) (by rfl) hm3 ⟨w.heap.size, 0, none⟩ 1 1 [.int .i64 n] (by rfl) (by rfl) (fun jx ux hj => by rcases jx with _ | jx; (simp only [List.getElem?_cons_zero, Option.some.injEq] at hj; rw [← hj]; exact hN3); simp at hj) (by simp [Value.oneCell']) (by unfold maxLen; omega) (by omega) hd3.bel.size ?_
            intro v4 w4 hm4 hr4
            have hd4 := hd3.ran hm3 hr4
            refine hK _ _ (fun _ => hd4.c1) ?_
            clear hK K
            try simp only [Act.put, List.setIfInBounds_toArray, List.set_cons_zero, List.set_cons_succ]
            refine wpAnyT_all (rs := [18]) (by kernel_rfl) (by simp) ?_
            intro ix hix
            simp only [List.mem_cons, List.not_mem_nil, or_false] at hix
            subst hix
            refine wpT_op (o := _) (by rfl) (fun K hK => ?_)
            refine step_append_src (by rfl) _ _ _ (by rfl) w.heap.size 3 i0 _ 1 8 Try.underlying44 hi0 hz0 hz1 hz2 rfl (by omega) v4 (0 + i + 1) ([] ++ ints (ys.take i) ++ [.int .i64 n]) (by rfl) hm4 w.heap.size _ _ _ (ints (ys.drop i)) (by rfl) (HB.out _ hd4) (ints_one _) (by unfold maxLen; omega) (by omega) hd4.bel.size ?_
            intro v5 w5 hm5 hr5
            obtain ⟨A5, c5, rfl⟩ := hm5.form
            have hd5 := hd4.ran hm4 hr5
            refine hK _ _ (fun _ => hd5.c1) ?_
            clear hK K
            try simp only [Act.put, List.setIfInBounds_toArray, List.set_cons_zero, List.set_cons_succ]
            have hS := hd5.c1
            have f5 := hd5.f1
            refine wpAnyT_take (i := 19) (oi := _) (v := ?_) (by rfl) (by kernel_rfl) (by intro _ _ _ h; exact h) hS (Or.inl ⟨by rfl, ?_⟩) ?_
            rotate_left 1
            · intro w' hS'
              go_simp
              all_goals with_reducible rfl
            simp only [Act.put, List.setIfInBounds_toArray, List.set_cons_zero, List.set_cons_succ]
            refine wpAnyT_take (i := 20) (oi := _) (v := ?_) (by rfl) (by kernel_rfl) (by intro _ _ _ h; exact h) hS (Or.inl ⟨by rfl, ?_⟩) ?_
            rotate_left 1
            · intro w' hS'
              go_simp
              all_goals with_reducible rfl
            simp only [Act.put, List.setIfInBounds_toArray, List.set_cons_zero, List.set_cons_succ]
            refine wpAnyT_all (rs := [21]) (by kernel_rfl) (by simp) ?_
            intro ix hix
            simp only [List.mem_cons, List.not_mem_nil, or_false] at hix
            subst hix
            refine wpT_op (o := _) (by rfl) (fun K hK => ?_)
            try go_simp
            refine hK _ _ (fun h => absurd h (by omega)) ?_
            clear hK K
            refine wpAnyT_done (by kernel_rfl) ?_ _
            have HM5 := Lib.hid hm5
            clear hm5
            go_wp2
            go_ret
            exact ⟨rfl, fin_ok hd5 HHd.out.c1 HL.out hi HI.out (fun _ => HNy.out) HM5.out (by have := HL.out; omega) (by have := HL.out; omega)⟩
    · obtain rfl : i = L := by omega
      generalize hiL : i = L at *
      have HiL := Lib.hid hiL
      clear hiL
      have g1 : (0 : Int) ≤ L := by omega
      have g4 : (L : Int) ≤ c := by omega
      by_cases hci : c = L
      · have HCI := Lib.hid hci
        clear hci
        go_wp2
        clear hrd
        have HA : Hid (∀ w', Hd w Q L c A ys w' → Reads w' w.heap.size 1 A L (ints (ys.take L))) := Lib.hid (fun w' hd => by have := hd.rd.head (k := L) hi; unfold ints at this ⊢; rwa [Nat.mul_one, ← List.map_take] at this)
        have HB : Hid (∀ (w' : World) (Z : Option Addr), Reads w' w.heap.size 1 Z 0 (ints (ys.drop L))) := Lib.hid (fun w' Z => ⟨by simp [ints, HL.out], fun h => absurd h (by omega)⟩)
        refine wp_region_T (fun w' => w'.cell? ⟨Q, 1, none⟩ = some (.slice A L c)) 21 (by kernel_rfl) ?_
        have hS : w.drew.cell? ⟨Q, 1, none⟩ = some (.slice A L c) := h1
        refine wpAnyT_take (i := 0) (oi := _) (v := ?_) (by rfl) (by kernel_rfl) (by intro _ _ _ h; exact h) hS (Or.inl ⟨by rfl, ?_⟩) ?_
        rotate_left 1
        · intro w' hS'
          go_simp
          all_goals with_reducible rfl
        simp only [Act.put, List.setIfInBounds_toArray, List.set_cons_zero, List.set_cons_succ]
        refine wpAnyT_take (i := 2) (oi := _) (v := ?_) (by rfl) (by kernel_rfl) (by intro _ _ _ h; exact h) hS (Or.inl ⟨by rfl, ?_⟩) ?_
        rotate_left 1
        · intro w' hS'
          go_simp
          all_goals with_reducible rfl
        simp only [Act.put, List.setIfInBounds_toArray, List.set_cons_zero, List.set_cons_succ]
        refine wpAnyT_take (i := 3) (oi := _) (v := ?_) (by rfl) (by kernel_rfl) (by intro _ _ _ h; exact h) hS (Or.inl ⟨by rfl, ?_⟩) ?_
        rotate_left 1
        · intro w' hS'
          go_simp
          all_goals with_reducible rfl
        simp only [Act.put, List.setIfInBounds_toArray, List.set_cons_zero, List.set_cons_succ]
        refine wpAnyT_take (i := 4) (oi := _) (v := ?_) (by rfl) (by kernel_rfl) (by intro _ _ _ h; exact h) hS (Or.inl ⟨by rfl, ?_⟩) ?_
        rotate_left 1
        · intro w' hS'
          go_simp
          all_goals with_reducible rfl
        simp only [Act.put, List.setIfInBounds_toArray, List.set_cons_zero, List.set_cons_succ]
        refine wpAnyT_take (i := 5) (oi := _) (v := ?_) (by rfl) (by kernel_rfl) (by intro _ _ _ h; exact h) hS (Or.inl ⟨by rfl, ?_⟩) ?_
        rotate_left 1
        · intro w' hS'
          go_simp
          all_goals with_reducible rfl
        simp only [Act.put, List.setIfInBounds_toArray, List.set_cons_zero, List.set_cons_succ]
        refine wpAnyT_take (i := 6) (oi := _) (v := ?_) (by rfl) (by kernel_rfl) (by intro _ _ _ h; exact h) hS (Or.inl ⟨by rfl, ?_⟩) ?_
        rotate_left 1
        · intro w' hS'
          go_simp
          all_goals with_reducible rfl
        simp only [Act.put, List.setIfInBounds_toArray, List.set_cons_zero, List.set_cons_succ]
        refine wpAnyT_take (i := 7) (oi := _) (v := ?_) (by rfl) (by kernel_rfl) (by intro _ _ _ h; exact h) hS (Or.inl ⟨by rfl, ?_⟩) ?_
        rotate_left 1
        · intro w' hS'
          go_simp
          all_goals with_reducible rfl
        simp only [Act.put, List.setIfInBounds_toArray, List.set_cons_zero, List.set_cons_succ]
        refine wpAnyT_take (i := 9) (oi := _) (v := ?_) (by rfl) (by kernel_rfl) (by intro _ _ _ h; exact h) hS (Or.inl ⟨by rfl, ?_⟩) ?_
        rotate_left 1
        · intro w' hS'
          go_simp
          all_goals with_reducible rfl
        simp only [Act.put, List.setIfInBounds_toArray, List.set_cons_zero, List.set_cons_succ]
        refine wpAnyT_take (i := 12) (oi := _) (v := ?_) (by rfl) (by kernel_rfl) (by intro _ _ _ h; exact h) hS (Or.inl ⟨by rfl, ?_⟩) ?_
        rotate_left 1
        · intro w' hS'
          go_simp
          all_goals with_reducible rfl
        simp only [Act.put, List.setIfInBounds_toArray, List.set_cons_zero, List.set_cons_succ]
        refine wpAnyT_take (i := 13) (oi := _) (v := ?_) (by rfl) (by kernel_rfl) (by intro _ _ _ h; exact h) hS (Or.inl ⟨by rfl, ?_⟩) ?_
        rotate_left 1
        · intro w' hS'
          go_simp
          all_goals with_reducible rfl
        simp only [Act.put, List.setIfInBounds_toArray, List.set_cons_zero, List.set_cons_succ]
        refine wpAnyT_take (i := 14) (oi := _) (v := ?_) (by rfl) (by kernel_rfl) (by intro _ _ _ h; exact h) hS (Or.inl ⟨by rfl, ?_⟩) ?_
        rotate_left 1
        · intro w' hS'
          go_simp
          all_goals with_reducible rfl
        simp only [Act.put, List.setIfInBounds_toArray, List.set_cons_zero, List.set_cons_succ]
        refine wpAnyT_take (i := 15) (oi := _) (v := ?_) (by rfl) (by kernel_rfl) (by intro _ _ _ h; exact h) hS (Or.inl ⟨by rfl, ?_⟩) ?_
        rotate_left 1
        · intro w' hS'
          go_simp
          all_goals with_reducible rfl
        simp only [Act.put, List.setIfInBounds_toArray, List.set_cons_zero, List.set_cons_succ]
        refine wpAnyT_take (i := 16) (oi := _) (v := ?_) (by rfl) (by kernel_rfl) (by intro _ _ _ h; exact h) hS (Or.inl ⟨by rfl, ?_⟩) ?_
        rotate_left 1
        · intro w' hS'
          go_simp
          all_goals with_reducible rfl
        simp only [Act.put, List.setIfInBounds_toArray, List.set_cons_zero, List.set_cons_succ]
        refine wpAnyT_take (i := 17) (oi := _) (v := ?_) (by rfl) (by kernel_rfl) (by intro _ _ _ h; exact h) hS (Or.inl ⟨by rfl, ?_⟩) ?_
        rotate_left 1
        · intro w' hS'
          go_simp
          all_goals with_reducible rfl
        simp only [Act.put, List.setIfInBounds_toArray, List.set_cons_zero, List.set_cons_succ]
        refine wpAnyT_all (rs := [1, 10]) (by kernel_rfl) (by simp) ?_
        intro ix hix
        simp only [List.mem_cons, List.not_mem_nil, or_false] at hix
        have hd0 : Hd w Q L c A ys w.drew := ⟨HHd.out.c1, HHd.out.f1, HHd.out.rd, HHd.out.bel.drew, HHd.out.lq⟩
        rcases hix with rfl | rfl
        · refine wpT_op (o := _) (by rfl) (fun K hK => ?_)
          go_simp
          have hd1 := hd0.alloc (.cells #[] 3)
          have m1 : Mid (w.drew.alloc (.cells #[] 3)) w.heap.size 3 1 (.slice (some ⟨w.heap.size, 0, none⟩) 0 0) 0 [] := mid_empty w.drew w.heap.size (Nat.le_refl _)
          refine hK _ _ (fun _ => hd1.c1) ?_
          clear hK K
          try simp only [Act.put, List.setIfInBounds_toArray, List.set_cons_zero, List.set_cons_succ]
          refine wpAnyT_all (rs := [8, 10]) (by kernel_rfl) (by simp) ?_
          intro ix hix
          simp only [List.mem_cons, List.not_mem_nil, or_false] at hix
          rcases hix with rfl | rfl
          · refine wpT_op (o := _) (by rfl) (fun K hK => ?_)
            refine step_append_src (by rfl) _ _ _ (by rfl) w.heap.size 3 i0 _ 1 8 Try.underlying44 hi0 hz0 hz1 hz2 rfl (by omega) (.slice (some ⟨w.heap.size, 0, none⟩) 0 0) 0 [] (by rfl) m1 w.heap.size _ _ _ (ints (ys.take L)) (by rfl) (HA.out _ hd1) (ints_one _) (by unfold maxLen; omega) (by omega) hd1.bel.size ?_
            intro v2 w2 hm2 hr2
            have hd2 := hd1.ran m1 hr2
            refine hK _ _ (fun _ => hd2.c1) ?_
            clear hK K
            try simp only [Act.put, List.setIfInBounds_toArray, List.set_cons_zero, List.set_cons_succ]
            refine wpAnyT_all (rs := [10]) (by kernel_rfl) (by simp) ?_
            intro ix hix
            simp only [List.mem_cons, List.not_mem_nil, or_false] at hix
            subst hix
            refine wpT_op (o := _) (by rfl) (fun K hK => ?_)
            go_simp
            have hd3 := hd2.alloc (.cells #[.int .i64 n] 3)
            have m3 := Mid.alloc hm2 (.cells #[.int .i64 n] 3)
            refine hK _ _ (fun _ => hd3.c1) ?_
            clear hK K
            try simp only [Act.put, List.setIfInBounds_toArray, List.set_cons_zero, List.set_cons_succ]
            refine wpAnyT_all (rs := [11]) (by kernel_rfl) (by simp) ?_
            intro ix hix
            simp only [List.mem_cons, List.not_mem_nil, or_false] at hix
            subst hix
            refine wpT_op (o := _) (by rfl) (fun K hK => ?_)
            refine step_append_mid (by rfl) _ _ _ (by rfl) w.heap.size 3 i0 _ 1 8 Try.underlying44 hi0 hz0 hz1 hz2 rfl (by omega) v2 (0 + L) ([] ++ ints (ys.take L)) (by rfl) m3 ⟨w2.heap.size, 0, none⟩ 1 1 [.int .i64 n] (by rfl) (by rfl) (World.news_of_block (cs := #[.int .i64 n]) (t := 3) (fr := (0, 0)) (heap_alloc_new w2 _)) (by simp [Value.oneCell']) (by unfold maxLen; omega) (by omega) hd3.bel.size ?_
            intro v4 w4 hm4 hr4
            have hd4 := hd3.ran m3 hr4
            refine hK _ _ (fun _ => hd4.c1) ?_
            clear hK K
            try simp only [Act.put, List.setIfInBounds_toArray, List.set_cons_zero, List.set_cons_succ]
            refine wpAnyT_all (rs := [18]) (by kernel_rfl) (by simp) ?_
            intro ix hix
            simp only [List.mem_cons, List.not_mem_nil, or_false] at hix
            subst hix
            refine wpT_op (o := _) (by rfl) (fun K hK => ?_)
            refine step_append_src (by rfl) _ _ _ (by rfl) w.heap.size 3 i0 _ 1 8 Try.underlying44 hi0 hz0 hz1 hz2 rfl (by omega) v4 (0 + L + 1) ([] ++ ints (ys.take L) ++ [.int .i64 n]) (by rfl) hm4 w.heap.size _ _ _ (ints (ys.drop L)) (by rfl) (HB.out _ _) (ints_one _) (by unfold maxLen; omega) (by omega) hd4.bel.size ?_
            intro v5 w5 hm5 hr5
            obtain ⟨A5, c5, rfl⟩ := hm5.form
            have hd5 := hd4.ran hm4 hr5
            refine hK _ _ (fun _ => hd5.c1) ?_
            clear hK K
            try simp only [Act.put, List.setIfInBounds_toArray, List.set_cons_zero, List.set_cons_succ]
            have hS := hd5.c1
            have f5 := hd5.f1
            refine wpAnyT_take (i := 19) (oi := _) (v := ?_) (by rfl) (by kernel_rfl) (by intro _ _ _ h; exact h) hS (Or.inl ⟨by rfl, ?_⟩) ?_
            rotate_left 1
            · intro w' hS'
              go_simp
              all_goals with_reducible rfl
            simp only [Act.put, List.setIfInBounds_toArray, List.set_cons_zero, List.set_cons_succ]
            refine wpAnyT_take (i := 20) (oi := _) (v := ?_) (by rfl) (by kernel_rfl) (by intro _ _ _ h; exact h) hS (Or.inl ⟨by rfl, ?_⟩) ?_
            rotate_left 1
            · intro w' hS'
              go_simp
              all_goals with_reducible rfl
            simp only [Act.put, List.setIfInBounds_toArray, List.set_cons_zero, List.set_cons_succ]
            refine wpAnyT_all (rs := [21]) (by kernel_rfl) (by simp) ?_
            intro ix hix
            simp only [List.mem_cons, List.not_mem_nil, or_false] at hix
            subst hix
            refine wpT_op (o := _) (by rfl) (fun K hK => ?_)
            try go_simp
            refine hK _ _ (fun h => absurd h (by omega)) ?_
            clear hK K
            refine wpAnyT_done (by kernel_rfl) ?_ _
            have HM5 := Lib.hid hm5
            clear hm5
            go_wp2
            go_ret
            exact ⟨rfl, fin_ok hd5 HHd.out.c1 HL.out hi HI.out (fun h => absurd h (Nat.lt_irrefl _)) HM5.out (by have := HL.out; omega) (by have := HL.out; omega)⟩
          · refine wpT_op (o := _) (by rfl) (fun K hK => ?_)
            go_simp
            have hd2 := hd1.alloc (.cells #[.int .i64 n] 3)
            have m2 := Mid.alloc m1 (.cells #[.int .i64 n] 3)
            have hN2 : ((w.drew.alloc (.cells #[] 3)).alloc (.cells #[.int .i64 n] 3)).cell? ⟨w.heap.size + 1, 0, none⟩ = some (.int .i64 n) := World.cell?_alloc_at _ _ _ _ (by simp)
            refine hK _ _ (fun _ => hd2.c1) ?_
            clear hK K
            try simp only [Act.put, List.setIfInBounds_toArray, List.set_cons_zero, List.set_cons_succ]
            refine wpAnyT_all (rs := [8]) (by kernel_rfl) (by simp) ?_
            intro ix hix
            simp only [List.mem_cons, List.not_mem_nil, or_false] at hix
            subst hix
            refine wpT_op (o := _) (by rfl) (fun K hK => ?_)
            refine step_append_src (by rfl) _ _ _ (by rfl) w.heap.size 3 i0 _ 1 8 Try.underlying44 hi0 hz0 hz1 hz2 rfl (by omega) (.slice (some ⟨w.heap.size, 0, none⟩) 0 0) 0 [] (by rfl) m2 w.heap.size _ _ _ (ints (ys.take L)) (by rfl) (HA.out _ hd2) (ints_one _) (by unfold maxLen; omega) (by omega) hd2.bel.size ?_
            intro v3 w3 hm3 hr3
            have hd3 := hd2.ran m2 hr3
            have hN3 : w3.cell? ⟨w.heap.size + 1, 0, none⟩ = some (.int .i64 n) := hr3.cell _ (by simp <;> omega) (by simp [Value.ownBlock]) hN2
            refine hK _ _ (fun _ => hd3.c1) ?_
            clear hK K
            try simp only [Act.put, List.setIfInBounds_toArray, List.set_cons_zero, List.set_cons_succ]
            refine wpAnyT_all (rs := [11]) (by kernel_rfl) (by simp) ?_
            intro ix hix
            simp only [List.mem_cons, List.not_mem_nil, or_false] at hix
            subst hix
            refine wpT_op (o := _) (by rfl) (fun K hK => ?_)
            refine step_append_mid (by rfl) _ _ _ (by rfl) w.heap.size 3 i0 _ 1 8 Try.underlying44 hi0 hz0 hz1 hz2 rfl (by omega) v3 (0 + L) ([] ++ ints (ys.take L)) (by rfl) hm3 ⟨w.heap.size + 1, 0, none⟩ 1 1 [.int .i64 n] (by rfl) (by rfl) (fun jx ux hj => by rcases jx with _ | jx; (simp only [List.getElem?_cons_zero, Option.some.injEq] at hj; rw [← hj]; exact hN3); simp at hj) (by simp [Value.oneCell']) (by unfold maxLen; omega) (by omega) hd3.bel.size ?_
            intro v4 w4 hm4 hr4
            have hd4 := hd3.ran hm3 hr4
            refine hK _ _ (fun _ => hd4.c1) ?_
            clear hK K
            try simp only [Act.put, List.setIfInBounds_toArray, List.set_cons_zero, List.set_cons_succ]
            refine wpAnyT_all (rs := [18]) (by kernel_rfl) (by simp) ?_
            intro ix hix
            simp only [List.mem_cons, List.not_mem_nil, or_false] at hix
            subst hix
            refine wpT_op (o := _) (by rfl) (fun K hK => ?_)
            refine step_append_src (by rfl) _ _ _ (by rfl) w.heap.size 3 i0 _ 1 8 Try.underlying44 hi0 hz0 hz1 hz2 rfl (by omega) v4 (0 + L + 1) ([] ++ ints (ys.take L) ++ [.int .i64 n]) (by rfl) hm4 w.heap.size _ _ _ (ints (ys.drop L)) (by rfl) (HB.out _ _) (ints_one _) (by unfold maxLen; omega) (by omega) hd4.bel.size ?_
            intro v5 w5 hm5 hr5
            obtain ⟨A5, c5, rfl⟩ := hm5.form
            have hd5 := hd4.ran hm4 hr5
            refine hK _ _ (fun _ => hd5.c1) ?_
            clear hK K
            try simp only [Act.put, List.setIfInBounds_toArray, List.set_cons_zero, List.set_cons_succ]
            have hS := hd5.c1
            have f5 := hd5.f1
            refine wpAnyT_take (i := 19) (oi := _) (v := ?_) (by rfl) (by kernel_rfl) (by intro _ _ _ h; exact h) hS (Or.inl ⟨by rfl, ?_⟩) ?_
            rotate_left 1
            · intro w' hS'
              go_simp
              all_goals with_reducible rfl
            simp only [Act.put, List.setIfInBounds_toArray, List.set_cons_zero, List.set_cons_succ]
            refine wpAnyT_take (i := 20) (oi := _) (v := ?_) (by rfl) (by kernel_rfl) (by intro _ _ _ h; exact h) hS (Or.inl ⟨by rfl, ?_⟩) ?_
            rotate_left 1
            · intro w' hS'
              go_simp
              all_goals with_reducible rfl
            simp only [Act.put, List.setIfInBounds_toArray, List.set_cons_zero, List.set_cons_succ]
            refine wpAnyT_all (rs := [21]) (by kernel_rfl) (by simp) ?_
            intro ix hix
            simp only [List.mem_cons, List.not_mem_nil, or_false] at hix
            subst hix
            refine wpT_op (o := _) (by rfl) (fun K hK => ?_)
            try go_simp
            refine hK _ _ (fun h => absurd h (by omega)) ?_
            clear hK K
            refine wpAnyT_done (by kernel_rfl) ?_ _
            have HM5 := Lib.hid hm5
            clear hm5
            go_wp2
            go_ret
            exact ⟨rfl, fin_ok hd5 HHd.out.c1 HL.out hi HI.out (fun h => absurd h (Nat.lt_irrefl _)) HM5.out (by have := HL.out; omega) (by have := HL.out; omega)⟩
        · refine wpT_op (o := _) (by rfl) (fun K hK => ?_)
          go_simp
          have hd1 := hd0.alloc (.cells #[.int .i64 n] 3)
          have hN1 : (w.drew.alloc (.cells #[.int .i64 n] 3)).cell? ⟨w.heap.size, 0, none⟩ = some (.int .i64 n) := World.cell?_alloc_at _ _ _ _ rfl
          refine hK _ _ (fun _ => hd1.c1) ?_
          clear hK K
          try simp only [Act.put, List.setIfInBounds_toArray, List.set_cons_zero, List.set_cons_succ]
          refine wpAnyT_all (rs := [1]) (by kernel_rfl) (by simp) ?_
          intro ix hix
          simp only [List.mem_cons, List.not_mem_nil, or_false] at hix
          subst hix
          refine wpT_op (o := _) (by rfl) (fun K hK => ?_)
          go_simp
          have hd2 := hd1.alloc (.cells #[] 3)
          have m2 : Mid ((w.drew.alloc (.cells #[.int .i64 n] 3)).alloc (.cells #[] 3)) w.heap.size 3 1 (.slice (some ⟨w.heap.size + 1, 0, none⟩) 0 0) 0 [] := by have := mid_empty (w.drew.alloc (.cells #[.int .i64 n] 3)) w.heap.size (by simp); simpa using this
          have hN2 : ((w.drew.alloc (.cells #[.int .i64 n] 3)).alloc (.cells #[] 3)).cell? ⟨w.heap.size, 0, none⟩ = some (.int .i64 n) := (World.cell?_alloc_lt _ _ ⟨w.heap.size, 0, none⟩ (by simp)).trans hN1
          refine hK _ _ (fun _ => hd2.c1) ?_
          clear hK K
          try simp only [Act.put, List.setIfInBounds_toArray, List.set_cons_zero, List.set_cons_succ]
          refine wpAnyT_all (rs := [8]) (by kernel_rfl) (by simp) ?_
          intro ix hix
          simp only [List.mem_cons, List.not_mem_nil, or_false] at hix
          subst hix
          refine wpT_op (o := _) (by rfl) (fun K hK => ?_)
          refine step_append_src (by rfl) _ _ _ (by rfl) w.heap.size 3 i0 _ 1 8 Try.underlying44 hi0 hz0 hz1 hz2 rfl (by omega) (.slice (some ⟨w.heap.size + 1, 0, none⟩) 0 0) 0 [] (by rfl) m2 w.heap.size _ _ _ (ints (ys.take L)) (by rfl) (HA.out _ hd2) (ints_one _) (by unfold maxLen; omega) (by omega) hd2.bel.size ?_
          intro v3 w3 hm3 hr3
          have hd3 := hd2.ran m2 hr3
          have hN3 : w3.cell? ⟨w.heap.size, 0, none⟩ = some (.int .i64 n) := hr3.cell _ (by simp <;> omega) (by simp [Value.ownBlock]) hN2
          refine hK _ _ (fun _ => hd3.c1) ?_
          clear hK K
          try simp only [Act.put, List.setIfInBounds_toArray, List.set_cons_zero, List.set_cons_succ]
          refine wpAnyT_all (rs := [11]) (by kernel_rfl) (by simp) ?_
          intro ix hix
          simp only [List.mem_cons, List.not_mem_nil, or_false] at hix
          subst hix
          refine wpT_op (o := _) (by rfl) (fun K hK => ?_)
          refine step_append_mid (by rfl) _ _ _ (by rfl) w.heap.size 3 i0 _ 1 8 Try.underlying44 hi0 hz0 hz1 hz2 rfl (by omega) v3 (0 + L) ([] ++ ints (ys.take L)) (by rfl) hm3 ⟨w.heap.size, 0, none⟩ 1 1 [.int .i64 n] (by rfl) (by rfl) (fun jx ux hj => by rcases jx with _ | jx; (simp only [List.getElem?_cons_zero, Option.some.injEq] at hj; rw [← hj]; exact hN3); simp at hj) (by simp [Value.oneCell']) (by unfold maxLen; omega) (by omega) hd3.bel.size ?_
          intro v4 w4 hm4 hr4
          have hd4 := hd3.ran hm3 hr4
          refine hK _ _ (fun _ => hd4.c1) ?_
          clear hK K
          try simp only [Act.put, List.setIfInBounds_toArray, List.set_cons_zero, List.set_cons_succ]
          refine wpAnyT_all (rs := [18]) (by kernel_rfl) (by simp) ?_
          intro ix hix
          simp only [List.mem_cons, List.not_mem_nil, or_false] at hix
          subst hix
          refine wpT_op (o := _) (by rfl) (fun K hK => ?_)
          refine step_append_src (by rfl) _ _ _ (by rfl) w.heap.size 3 i0 _ 1 8 Try.underlying44 hi0 hz0 hz1 hz2 rfl (by omega) v4 (0 + L + 1) ([] ++ ints (ys.take L) ++ [.int .i64 n]) (by rfl) hm4 w.heap.size _ _ _ (ints (ys.drop L)) (by rfl) (HB.out _ _) (ints_one _) (by unfold maxLen; omega) (by omega) hd4.bel.size ?_
          intro v5 w5 hm5 hr5
          obtain ⟨A5, c5, rfl⟩ := hm5.form
          have hd5 := hd4.ran hm4 hr5
          refine hK _ _ (fun _ => hd5.c1) ?_
          clear hK K
          try simp only [Act.put, List.setIfInBounds_toArray, List.set_cons_zero, List.set_cons_succ]
          have hS := hd5.c1
          have f5 := hd5.f1
          refine wpAnyT_take (i := 19) (oi := _) (v := ?_) (by rfl) (by kernel_rfl) (by intro _ _ _ h; exact h) hS (Or.inl ⟨by rfl, ?_⟩) ?_
          rotate_left 1
          · intro w' hS'
            go_simp
            all_goals with_reducible rfl
          simp only [Act.put, List.setIfInBounds_toArray, List.set_cons_zero, List.set_cons_succ]
          refine wpAnyT_take (i := 20) (oi := _) (v := ?_) (by rfl) (by kernel_rfl) (by intro _ _ _ h; exact h) hS (Or.inl ⟨by rfl, ?_⟩) ?_
          rotate_left 1
          · intro w' hS'
            go_simp
            all_goals with_reducible rfl
          simp only [Act.put, List.setIfInBounds_toArray, List.set_cons_zero, List.set_cons_succ]
          refine wpAnyT_all (rs := [21]) (by kernel_rfl) (by simp) ?_
          intro ix hix
          simp only [List.mem_cons, List.not_mem_nil, or_false] at hix
          subst hix
          refine wpT_op (o := _) (by rfl) (fun K hK => ?_)
          try go_simp
          refine hK _ _ (fun h => absurd h (by omega)) ?_
          clear hK K
          refine wpAnyT_done (by kernel_rfl) ?_ _
          have HM5 := Lib.hid hm5
          clear hm5
          go_wp2
          go_ret
          exact ⟨rfl, fin_ok hd5 HHd.out.c1 HL.out hi HI.out (fun h => absurd h (Nat.lt_irrefl _)) HM5.out (by have := HL.out; omega) (by have := HL.out; omega)⟩
      · go_wp2
        clear hrd
        have HA : Hid (∀ w', Hd w Q L c A ys w' → Reads w' w.heap.size 1 A L (ints (ys.take L))) := Lib.hid (fun w' hd => by have := hd.rd.head (k := L) hi; unfold ints at this ⊢; rwa [Nat.mul_one, ← List.map_take] at this)
        have HB : Hid (∀ (w' : World) (Z : Option Addr), Reads w' w.heap.size 1 Z 0 (ints (ys.drop L))) := Lib.hid (fun w' Z => ⟨by simp [ints, HL.out], fun h => absurd h (by omega)⟩)
        refine wp_region_T (fun w' => w'.cell? ⟨Q, 1, none⟩ = some (.slice A L c)) 21 (by kernel_rfl) ?_
        have hS : w.drew.cell? ⟨Q, 1, none⟩ = some (.slice A L c) := h1
        refine wpAnyT_take (i := 0) (oi := _) (v := ?_) (by rfl) (by kernel_rfl) (by intro _ _ _ h; exact h) hS (Or.inl ⟨by rfl, ?_⟩) ?_
        rotate_left 1
        · intro w' hS'
          go_simp
          all_goals with_reducible rfl
        simp only [Act.put, List.setIfInBounds_toArray, List.set_cons_zero, List.set_cons_succ]
        refine wpAnyT_take (i := 2) (oi := _) (v := ?_) (by rfl) (by kernel_rfl) (by intro _ _ _ h; exact h) hS (Or.inl ⟨by rfl, ?_⟩) ?_
        rotate_left 1
        · intro w' hS'
          go_simp
          all_goals with_reducible rfl
        simp only [Act.put, List.setIfInBounds_toArray, List.set_cons_zero, List.set_cons_succ]
        refine wpAnyT_take (i := 3) (oi := _) (v := ?_) (by rfl) (by kernel_rfl) (by intro _ _ _ h; exact h) hS (Or.inl ⟨by rfl, ?_⟩) ?_
        rotate_left 1
        · intro w' hS'
          go_simp
          all_goals with_reducible rfl
        simp only [Act.put, List.setIfInBounds_toArray, List.set_cons_zero, List.set_cons_succ]
        refine wpAnyT_take (i := 4) (oi := _) (v := ?_) (by rfl) (by kernel_rfl) (by intro _ _ _ h; exact h) hS (Or.inl ⟨by rfl, ?_⟩) ?_
        rotate_left 1
        · intro w' hS'
          go_simp
          all_goals with_reducible rfl
        simp only [Act.put, List.setIfInBounds_toArray, List.set_cons_zero, List.set_cons_succ]
        refine wpAnyT_take (i := 5) (oi := _) (v := ?_) (by rfl) (by kernel_rfl) (by intro _ _ _ h; exact h) hS (Or.inl ⟨by rfl, ?_⟩) ?_
        rotate_left 1
        · intro w' hS'
          go_simp
          all_goals with_reducible rfl
        simp only [Act.put, List.setIfInBounds_toArray, List.set_cons_zero, List.set_cons_succ]
        refine wpAnyT_take (i := 6) (oi := _) (v := ?_) (by rfl) (by kernel_rfl) (by intro _ _ _ h; exact h) hS (Or.inl ⟨by rfl, ?_⟩) ?_
        rotate_left 1
        · intro w' hS'
          go_simp
          all_goals with_reducible rfl
        simp only [Act.put, List.setIfInBounds_toArray, List.set_cons_zero, List.set_cons_succ]
        refine wpAnyT_take (i := 7) (oi := _) (v := ?_) (by rfl) (by kernel_rfl) (by intro _ _ _ h; exact h) hS (Or.inl ⟨by rfl, ?_⟩) ?_
        rotate_left 1
        · intro w' hS'
          go_simp
          all_goals with_reducible rfl
        simp only [Act.put, List.setIfInBounds_toArray, List.set_cons_zero, List.set_cons_succ]
        refine wpAnyT_take (i := 9) (oi := _) (v := ?_) (by rfl) (by kernel_rfl) (by intro _ _ _ h; exact h) hS (Or.inl ⟨by rfl, ?_⟩) ?_
        rotate_left 1
        · intro w' hS'
          go_simp
          all_goals with_reducible rfl
        simp only [Act.put, List.setIfInBounds_toArray, List.set_cons_zero, List.set_cons_succ]
        refine wpAnyT_take (i := 12) (oi := _) (v := ?_) (by rfl) (by kernel_rfl) (by intro _ _ _ h; exact h) hS (Or.inl ⟨by rfl, ?_⟩) ?_
        rotate_left 1
        · intro w' hS'
          go_simp
          all_goals with_reducible rfl
        simp only [Act.put, List.setIfInBounds_toArray, List.set_cons_zero, List.set_cons_succ]
        refine wpAnyT_take (i := 13) (oi := _) (v := ?_) (by rfl) (by kernel_rfl) (by intro _ _ _ h; exact h) hS (Or.inl ⟨by rfl, ?_⟩) ?_
        rotate_left 1
        · intro w' hS'
          go_simp
          all_goals with_reducible rfl
        simp only [Act.put, List.setIfInBounds_toArray, List.set_cons_zero, List.set_cons_succ]
        refine wpAnyT_take (i := 14) (oi := _) (v := ?_) (by rfl) (by kernel_rfl) (by intro _ _ _ h; exact h) hS (Or.inl ⟨by rfl, ?_⟩) ?_
        rotate_left 1
        · intro w' hS'
          go_simp
          all_goals with_reducible rfl
        simp only [Act.put, List.setIfInBounds_toArray, List.set_cons_zero, List.set_cons_succ]
        refine wpAnyT_take (i := 15) (oi := _) (v := ?_) (by rfl) (by kernel_rfl) (by intro _ _ _ h; exact h) hS (Or.inl ⟨by rfl, ?_⟩) ?_
        rotate_left 1
        · intro w' hS'
          go_simp
          all_goals with_reducible rfl
        simp only [Act.put, List.setIfInBounds_toArray, List.set_cons_zero, List.set_cons_succ]
        refine wpAnyT_take (i := 16) (oi := _) (v := ?_) (by rfl) (by kernel_rfl) (by intro _ _ _ h; exact h) hS (Or.inl ⟨by rfl, ?_⟩) ?_
        rotate_left 1
        · intro w' hS'
          go_simp
          all_goals with_reducible rfl
        simp only [Act.put, List.setIfInBounds_toArray, List.set_cons_zero, List.set_cons_succ]
        refine wpAnyT_take (i := 17) (oi := _) (v := ?_) (by rfl) (by kernel_rfl) (by intro _ _ _ h; exact h) hS (Or.inl ⟨by rfl, ?_⟩) ?_
        rotate_left 1
        · intro w' hS'
          go_simp
          all_goals with_reducible rfl
        simp only [Act.put, List.setIfInBounds_toArray, List.set_cons_zero, List.set_cons_succ]
        refine wpAnyT_all (rs := [1, 10]) (by kernel_rfl) (by simp) ?_
        intro ix hix
        simp only [List.mem_cons, List.not_mem_nil, or_false] at hix
        have hd0 : Hd w Q L c A ys w.drew := ⟨HHd.out.c1, HHd.out.f1, HHd.out.rd, HHd.out.bel.drew, HHd.out.lq⟩
        rcases hix with rfl | rfl
        · refine wpT_op (o := _) (by rfl) (fun K hK => ?_)
          go_simp
          have hd1 := hd0.alloc (.cells #[] 3)
          have m1 : Mid (w.drew.alloc (.cells #[] 3)) w.heap.size 3 1 (.slice (some ⟨w.heap.size, 0, none⟩) 0 0) 0 [] := mid_empty w.drew w.heap.size (Nat.le_refl _)
          refine hK _ _ (fun _ => hd1.c1) ?_
          clear hK K
          try simp only [Act.put, List.setIfInBounds_toArray, List.set_cons_zero, List.set_cons_succ]
          refine wpAnyT_all (rs := [8, 10]) (by kernel_rfl) (by simp) ?_
          intro ix hix
          simp only [List.mem_cons, List.not_mem_nil, or_false] at hix
          rcases hix with rfl | rfl
          · refine wpT_op (o := _) (by rfl) (fun K hK => ?_)
            refine step_append_src (by rfl) _ _ _ (by rfl) w.heap.size 3 i0 _ 1 8 Try.underlying44 hi0 hz0 hz1 hz2 rfl (by omega) (.slice (some ⟨w.heap.size, 0, none⟩) 0 0) 0 [] (by rfl) m1 w.heap.size _ _ _ (ints (ys.take L)) (by rfl) (HA.out _ hd1) (ints_one _) (by unfold maxLen; omega) (by omega) hd1.bel.size ?_
            intro v2 w2 hm2 hr2
            have hd2 := hd1.ran m1 hr2
            refine hK _ _ (fun _ => hd2.c1) ?_
            clear hK K
            try simp only [Act.put, List.setIfInBounds_toArray, List.set_cons_zero, List.set_cons_succ]
            refine wpAnyT_all (rs := [10]) (by kernel_rfl) (by simp) ?_
            intro ix hix
            simp only [List.mem_cons, List.not_mem_nil, or_false] at hix
            subst hix
            refine wpT_op (o := _) (by rfl) (fun K hK => ?_)
            go_simp
            have hd3 := hd2.alloc (.cells #[.int .i64 n] 3)
            have m3 := Mid.alloc hm2 (.cells #[.int .i64 n] 3)
            refine hK _ _ (fun _ => hd3.c1) ?_
            clear hK K
            try simp only [Act.put, List.setIfInBounds_toArray, List.set_cons_zero, List.set_cons_succ]
            refine wpAnyT_all (rs := [11]) (by kernel_rfl) (by simp) ?_
            intro ix hix
            simp only [List.mem_cons, List.not_mem_nil, or_false] at hix
            subst hix
            refine wpT_op (o := _) (by rfl) (fun K hK => ?_)
            refine step_append_mid (by rfl) _ _ _ (by rfl) w.heap.size 3 i0 _ 1 8 Try.underlying44 hi0 hz0 hz1 hz2 rfl (by omega) v2 (0 + L) ([] ++ ints (ys.take L)) (by rfl) m3 ⟨w2.heap.size, 0, none⟩ 1 1 [.int .i64 n] (by rfl) (by rfl) (World.news_of_block (cs := #[.int .i64 n]) (t := 3) (fr := (0, 0)) (heap_alloc_new w2 _)) (by simp [Value.oneCell']) (by unfold maxLen; omega) (by omega) hd3.bel.size ?_
            intro v4 w4 hm4 hr4
            have hd4 := hd3.ran m3 hr4
            refine hK _ _ (fun _ => hd4.c1) ?_
            clear hK K
            try simp only [Act.put, List.setIfInBounds_toArray, List.set_cons_zero, List.set_cons_succ]
            refine wpAnyT_all (rs := [18]) (by kernel_rfl) (by simp) ?_
            intro ix hix
            simp only [List.mem_cons, List.not_mem_nil, or_false] at hix
            subst hix
            refine wpT_op (o := _) (by rfl) (fun K hK => ?_)
            refine step_append_src (by rfl) _ _ _ (by rfl) w.heap.size 3 i0 _ 1 8 Try.underlying44 hi0 hz0 hz1 hz2 rfl (by omega) v4 (0 + L + 1) ([] ++ ints (ys.take L) ++ [.int .i64 n]) (by rfl) hm4 w.heap.size _ _ _ (ints (ys.drop L)) (by rfl) (HB.out _ _) (ints_one _) (by unfold maxLen; omega) (by omega) hd4.bel.size ?_
            intro v5 w5 hm5 hr5
            obtain ⟨A5, c5, rfl⟩ := hm5.form
            have hd5 := hd4.ran hm4 hr5
            refine hK _ _ (fun _ => hd5.c1) ?_
            clear hK K
            try simp only [Act.put, List.setIfInBounds_toArray, List.set_cons_zero, List.set_cons_succ]
            have hS := hd5.c1
            have f5 := hd5.f1
            refine wpAnyT_take (i := 19) (oi := _) (v := ?_) (by rfl) (by kernel_rfl) (by intro _ _ _ h; exact h) hS (Or.inl ⟨by rfl, ?_⟩) ?_
            rotate_left 1
            · intro w' hS'
              go_simp
              all_goals with_reducible rfl
            simp only [Act.put, List.setIfInBounds_toArray, List.set_cons_zero, List.set_cons_succ]
            refine wpAnyT_take (i := 20) (oi := _) (v := ?_) (by rfl) (by kernel_rfl) (by intro _ _ _ h; exact h) hS (Or.inl ⟨by rfl, ?_⟩) ?_
            rotate_left 1
            · intro w' hS'
              go_simp
              all_goals with_reducible rfl
            simp only [Act.put, List.setIfInBounds_toArray, List.set_cons_zero, List.set_cons_succ]
            refine wpAnyT_all (rs := [21]) (by kernel_rfl) (by simp) ?_
            intro ix hix
            simp only [List.mem_cons, List.not_mem_nil, or_false] at hix
            subst hix
            refine wpT_op (o := _) (by rfl) (fun K hK => ?_)
            try go_simp
            refine hK _ _ (fun h => absurd h (by omega)) ?_
            clear hK K
            refine wpAnyT_done (by kernel_rfl) ?_ _
            have HM5 := Lib.hid hm5
            clear hm5
            go_wp2
            go_ret
            exact ⟨rfl, fin_ok hd5 HHd.out.c1 HL.out hi HI.out (fun h => absurd h (Nat.lt_irrefl _)) HM5.out (by have := HL.out; omega) (by have := HL.out; omega)⟩
          · refine wpT_op (o := _) (by rfl) (fun K hK => ?_)
            go_simp
            have hd2 := hd1.alloc (.cells #[.int .i64 n] 3)
            have m2 := Mid.alloc m1 (.cells #[.int .i64 n] 3)
            have hN2 : ((w.drew.alloc (.cells #[] 3)).alloc (.cells #[.int .i64 n] 3)).cell? ⟨w.heap.size + 1, 0, none⟩ = some (.int .i64 n) := World.cell?_alloc_at _ _ _ _ (by simp)
            refine hK _ _ (fun _ => hd2.c1) ?_
            clear hK K
            try simp only [Act.put, List.setIfInBounds_toArray, List.set_cons_zero, List.set_cons_succ]
            refine wpAnyT_all (rs := [8]) (by kernel_rfl) (by simp) ?_
            intro ix hix
            simp only [List.mem_cons, List.not_mem_nil, or_false] at hix
            subst hix
            refine wpT_op (o := _) (by rfl) (fun K hK => ?_)
            refine step_append_src (by rfl) _ _ _ (by rfl) w.heap.size 3 i0 _ 1 8 Try.underlying44 hi0 hz0 hz1 hz2 rfl (by omega) (.slice (some ⟨w.heap.size, 0, none⟩) 0 0) 0 [] (by rfl) m2 w.heap.size _ _ _ (ints (ys.take L)) (by rfl) (HA.out _ hd2) (ints_one _) (by unfold maxLen; omega) (by omega) hd2.bel.size ?_
            intro v3 w3 hm3 hr3
            have hd3 := hd2.ran m2 hr3
            have hN3 : w3.cell? ⟨w.heap.size + 1, 0, none⟩ = some (.int .i64 n) := hr3.cell _ (by simp <;> omega) (by simp [Value.ownBlock]) hN2
            refine hK _ _ (fun _ => hd3.c1) ?_
            clear hK K
            try simp only [Act.put, List.setIfInBounds_toArray, List.set_cons_zero, List.set_cons_succ]
            refine wpAnyT_all (rs := [11]) (by kernel_rfl) (by simp) ?_
            intro ix hix
            simp only [List.mem_cons, List.not_mem_nil, or_false] at hix
            subst hix
            refine wpT_op (o := _) (by rfl) (fun K hK => ?_)
            refine step_append_mid (by rfl) _ _ _ (by rfl) w.heap.size 3 i0 _ 1 8 Try.underlying44 hi0 hz0 hz1 hz2 rfl (by omega) v3 (0 + L) ([] ++ ints (ys.take L)) (by rfl) hm3 ⟨w.heap.size + 1, 0, none⟩ 1 1 [.int .i64 n] (by rfl) (by rfl) (fun jx ux hj => by rcases jx with _ | jx; (simp only [List.getElem?_cons_zero, Option.some.injEq] at hj; rw [← hj]; exact hN3); simp at hj) (by simp [Value.oneCell']) (by unfold maxLen; omega) (by omega) hd3.bel.size ?_
            intro v4 w4 hm4 hr4
            have hd4 := hd3.ran hm3 hr4
            refine hK _ _ (fun _ => hd4.c1) ?_
            clear hK K
            try simp only [Act.put, List.setIfInBounds_toArray, List.set_cons_zero, List.set_cons_succ]
            refine wpAnyT_all (rs := [18]) (by kernel_rfl) (by simp) ?_
            intro ix hix
            simp only [List.mem_cons, List.not_mem_nil, or_false] at hix
            subst hix
            refine wpT_op (o := _) (by rfl) (fun K hK => ?_)
            refine step_append_src (by rfl) _ _ _ (by rfl) w.heap.size 3 i0 _ 1 8 Try.underlying44 hi0 hz0 hz1 hz2 rfl (by omega) v4 (0 + L + 1) ([] ++ ints (ys.take L) ++ [.int .i64 n]) (by rfl) hm4 w.heap.size _ _ _ (ints (ys.drop L)) (by rfl) (HB.out _ _) (ints_one _) (by unfold maxLen; omega) (by omega) hd4.bel.size ?_
            intro v5 w5 hm5 hr5
            obtain ⟨A5, c5, rfl⟩ := hm5.form
            have hd5 := hd4.ran hm4 hr5
            refine hK _ _ (fun _ => hd5.c1) ?_
            clear hK K
            try simp only [Act.put, List.setIfInBounds_toArray, List.set_cons_zero, List.set_cons_succ]
            have hS := hd5.c1
            have f5 := hd5.f1
            refine wpAnyT_take (i := 19) (oi := _) (v := ?_) (by rfl) (by kernel_rfl) (by intro _ _ _ h; exact h) hS (Or.inl ⟨by rfl, ?_⟩) ?_
            rotate_left 1
            · intro w' hS'
              go_simp
              all_goals with_reducible rfl
            simp only [Act.put, List.setIfInBounds_toArray, List.set_cons_zero, List.set_cons_succ]
            refine wpAnyT_take (i := 20) (oi := _) (v := ?_) (by rfl) (by kernel_rfl) (by intro _ _ _ h; exact h) hS (Or.inl ⟨by rfl, ?_⟩) ?_
            rotate_left 1
            · intro w' hS'
              go_simp
              all_goals with_reducible rfl
            simp only [Act.put, List.setIfInBounds_toArray, List.set_cons_zero, List.set_cons_succ]
            refine wpAnyT_all (rs := [21]) (by kernel_rfl) (by simp) ?_
            intro ix hix
            simp only [List.mem_cons, List.not_mem_nil, or_false] at hix
            subst hix
            refine wpT_op (o := _) (by rfl) (fun K hK => ?_)
            try go_simp
            refine hK _ _ (fun h => absurd h (by omega)) ?_
            clear hK K
            refine wpAnyT_done (by kernel_rfl) ?_ _
            have HM5 := Lib.hid hm5
            clear hm5
            go_wp2
            go_ret
            exact ⟨rfl, fin_ok hd5 HHd.out.c1 HL.out hi HI.out (fun h => absurd h (Nat.lt_irrefl _)) HM5.out (by have := HL.out; omega) (by have := HL.out; omega)⟩
        · refine wpT_op (o := _) (by rfl) (fun K hK => ?_)
          go_simp
          have hd1 := hd0.alloc (.cells #[.int .i64 n] 3)
          have hN1 : (w.drew.alloc (.cells #[.int .i64 n] 3)).cell? ⟨w.heap.size, 0, none⟩ = some (.int .i64 n) := World.cell?_alloc_at _ _ _ _ rfl
          refine hK _ _ (fun _ => hd1.c1) ?_
          clear hK K
          try simp only [Act.put, List.setIfInBounds_toArray, List.set_cons_zero, List.set_cons_succ]
          refine wpAnyT_all (rs := [1]) (by kernel_rfl) (by simp) ?_
          intro ix hix
          simp only [List.mem_cons, List.not_mem_nil, or_false] at hix
          subst hix
          refine wpT_op (o := _) (by rfl) (fun K hK => ?_)
          go_simp
          have hd2 := hd1.alloc (.cells #[] 3)
          have m2 : Mid ((w.drew.alloc (.cells #[.int .i64 n] 3)).alloc (.cells #[] 3)) w.heap.size 3 1 (.slice (some ⟨w.heap.size + 1, 0, none⟩) 0 0) 0 [] := by have := mid_empty (w.drew.alloc (.cells #[.int .i64 n] 3)) w.heap.size (by simp); simpa using this
          have hN2 : ((w.drew.alloc (.cells #[.int .i64 n] 3)).alloc (.cells #[] 3)).cell? ⟨w.heap.size, 0, none⟩ = some (.int .i64 n) := (World.cell?_alloc_lt _ _ ⟨w.heap.size, 0, none⟩ (by simp)).trans hN1
          refine hK _ _ (fun _ => hd2.c1) ?_
          clear hK K
          try simp only [Act.put, List.setIfInBounds_toArray, List.set_cons_zero, List.set_cons_succ]
          refine wpAnyT_all (rs := [8]) (by kernel_rfl) (by simp) ?_
          intro ix hix
          simp only [List.mem_cons, List.not_mem_nil, or_false] at hix
          subst hix
          refine wpT_op (o := _) (by rfl) (fun K hK => ?_)
          refine step_append_src (by rfl) _ _ _ (by rfl) w.heap.size 3 i0 _ 1 8 Try.underlying44 hi0 hz0 hz1 hz2 rfl (by omega) (.slice (some ⟨w.heap.size + 1, 0, none⟩) 0 0) 0 [] (by rfl) m2 w.heap.size _ _ _ (ints (ys.take L)) (by rfl) (HA.out _ hd2) (ints_one _) (by unfold maxLen; omega) (by omega) hd2.bel.size ?_
          intro v3 w3 hm3 hr3
          have hd3 := hd2.ran m2 hr3
          have hN3 : w3.cell? ⟨w.heap.size, 0, none⟩ = some (.int .i64 n) := hr3.cell _ (by simp <;> omega) (by simp [Value.ownBlock]) hN2
          refine hK _ _ (fun _ => hd3.c1) ?_
          clear hK K
          try simp only [Act.put, List.setIfInBounds_toArray, List.set_cons_zero, List.set_cons_succ]
          refine wpAnyT_all (rs := [11]) (by kernel_rfl) (by simp) ?_
          intro ix hix
          simp only [List.mem_cons, List.not_mem_nil, or_false] at hix
          subst hix
          refine wpT_op (o := _) (by rfl) (fun K hK => ?_)
          refine step_append_mid (by rfl) _ _ _ (by rfl) w.heap.size 3 i0 _ 1 8 Try.underlying44 hi0 hz0 hz1 hz2 rfl (by omega) v3 (0 + L) ([] ++ ints (ys.take L)) (by rfl) hm3 ⟨w.heap.size, 0, none⟩ 1 1 [.int .i64 n] (by rfl) (by rfl) (fun jx ux hj => by rcases jx with _ | jx; (simp only [List.getElem?_cons_zero, Option.some.injEq] at hj; rw [← hj]; exact hN3); simp at hj) (by simp [Value.oneCell']) (by unfold maxLen; omega) (by omega) hd3.bel.size ?_
          intro v4 w4 hm4 hr4
          have hd4 := hd3.ran hm3 hr4
          refine hK _ _ (fun _ => hd4.c1) ?_
          clear hK K
          try simp only [Act.put, List.setIfInBounds_toArray, List.set_cons_zero, List.set_cons_succ]
          refine wpAnyT_all (rs := [18]) (by kernel_rfl) (by simp) ?_
          intro ix hix
          simp only [List.mem_cons, List.not_mem_nil, or_false] at hix
          subst hix
          refine wpT_op (o := _) (by rfl) (fun K hK => ?_)
          refine step_append_src (by rfl) _ _ _ (by rfl) w.heap.size 3 i0 _ 1 8 Try.underlying44 hi0 hz0 hz1 hz2 rfl (by omega) v4 (0 + L + 1) ([] ++ ints (ys.take L) ++ [.int .i64 n]) (by rfl) hm4 w.heap.size _ _ _ (ints (ys.drop L)) (by rfl) (HB.out _ _) (ints_one _) (by unfold maxLen; omega) (by omega) hd4.bel.size ?_
          intro v5 w5 hm5 hr5
          obtain ⟨A5, c5, rfl⟩ := hm5.form
          have hd5 := hd4.ran hm4 hr5
          refine hK _ _ (fun _ => hd5.c1) ?_
          clear hK K
          try simp only [Act.put, List.setIfInBounds_toArray, List.set_cons_zero, List.set_cons_succ]
          have hS := hd5.c1
          have f5 := hd5.f1
          refine wpAnyT_take (i := 19) (oi := _) (v := ?_) (by rfl) (by kernel_rfl) (by intro _ _ _ h; exact h) hS (Or.inl ⟨by rfl, ?_⟩) ?_
          rotate_left 1
          · intro w' hS'
            go_simp
            all_goals with_reducible rfl
          simp only [Act.put, List.setIfInBounds_toArray, List.set_cons_zero, List.set_cons_succ]
          refine wpAnyT_take (i := 20) (oi := _) (v := ?_) (by rfl) (by kernel_rfl) (by intro _ _ _ h; exact h) hS (Or.inl ⟨by rfl, ?_⟩) ?_
          rotate_left 1
          · intro w' hS'
            go_simp
            all_goals with_reducible rfl
          simp only [Act.put, List.setIfInBounds_toArray, List.set_cons_zero, List.set_cons_succ]
          refine wpAnyT_all (rs := [21]) (by kernel_rfl) (by simp) ?_
          intro ix hix
          simp only [List.mem_cons, List.not_mem_nil, or_false] at hix
          subst hix
          refine wpT_op (o := _) (by rfl) (fun K hK => ?_)
          try go_simp
          refine hK _ _ (fun h => absurd h (by omega)) ?_
          clear hK K
          refine wpAnyT_done (by kernel_rfl) ?_ _
          have HM5 := Lib.hid hm5
          clear hm5
          go_wp2
          go_ret
          exact ⟨rfl, fin_ok hd5 HHd.out.c1 HL.out hi HI.out (fun h => absurd h (Nat.lt_irrefl _)) HM5.out (by have := HL.out; omega) (by have := HL.out; omega)⟩
end Go.Proofs.Ytdkokpaboipamaa
