/-
  Retire: what waits, and one more; conditions: sizes.
-/
import Derived.Test.YtafedpphecfgnaaEx1
namespace Go.Proofs.Ytafedpphecfgnaa
open Go.RowKit Go.WideShapes Go.ChangeShapes
set_option linter.all false
attribute [local go_sem ↓] Go.wp_at_zero Go.wp_at_succ
theorem info61 : (Try.prog.info? 61).map (fun i => (i.zero, i.size, i.bytes)) = some (some (.agg #[.int .i64 0, .int .i64 0]), 2, 16) := by kernel_rfl
section
variable {N E R k : Nat} {lim now : Int} {V : Nat → Value} {X : Nat → List (Int × Int)} {w w' : World}
set_option maxRecDepth 100000 in
set_option maxHeartbeats 400000 in
theorem ehas_in (h : Es N E R k lim now V X w) (j : Nat) (hj : j < k) : Calls Try.prog 26 #[.pointer (some ⟨E, 0, none⟩), .int .i64 j] w fun e w' => e = .returned (.bool true) ∧ w' = w := by
  have h2 := h.c2
  have hj1 : (j : Int) < k := by omega
  have hj0 : (0 : Int) ≤ j := by omega
  clear h
  go_enter Try.func26, Try.ntmps26
  go_wp2
  go_ret
  exact ⟨rfl, rfl⟩
/-- What the parts of a ref are. -/
def IsRef (r : Int) : Prop := ∀ w, Calls Try.prog 25 #[.int .i64 r] w fun e w' => (∃ a b : Int, ∃ l : Bool, e = .returned (.tuple #[.int .i64 a, .int .i64 b, .bool l, .bool true])) ∧ Below w.heap.size w w'
set_option maxRecDepth 100000 in
set_option maxHeartbeats 800000 in
theorem retire_full (h : Es N E R k lim now V X w) (j : Nat) (hj : j < k) (r : Int) (hr : IsRef r) (hl : lim ≤ (X j).length) :
    Calls Try.prog 8 #[.pointer (some ⟨E, 0, none⟩), .int .i64 j, .int .i64 r] w fun e w' => e = .returned (.int .i64 2) ∧ Below w.heap.size w w' := by
  obtain ⟨A, c, hV⟩ := (h.own j hj).form
  generalize hL : (X j).length = L at *
  have hj1 : (j : Int) < k := by omega
  have hj0 : (0 : Int) ≤ j := by omega
  have HH := Lib.hid h
  have HR := Lib.hid hr
  have HV := Lib.hid hV
  have HX := Lib.hid hL
  clear h hr hV hL
  go_enter Try.func8, Try.ntmps8
  go_wp2_with (first
    | (go_at_call 25; refine (HR.out _).mono ?_; rintro e w1 ⟨⟨a, b, l, rfl⟩, hb⟩
       have h1 := HH.out.below hb
       have c1 := h1.c1
       have c2 := h1.c2
       have cv := h1.cv j hj
       rw [HV.out] at cv
       have H1 := Lib.hid h1
       clear h1)
    | (go_at_call 26; refine (ehas_in H1.out j hj).mono ?_; rintro e w2 ⟨rfl, rfl⟩)
    | fail)
  go_region_held3 (fun w' => w'.cell? ⟨R, j * 2 + 1, none⟩ = some (.slice A L c) ∧ w'.cell? ⟨E, 1, none⟩ = some (.int .i64 lim)) (go_keep) (fail)
  all_goals
    go_wp2
    go_ret
    exact ⟨rfl, hb.drew⟩
set_option maxRecDepth 100000 in
set_option maxHeartbeats 1600000 in
theorem retire_ok (h : Es N E R k lim now V X w) (j : Nat) (hj : j < k) (r : Int) (hr : IsRef r) (hl : (X j).length < lim) (hl9 : lim ≤ 1000) :
    Calls Try.prog 8 #[.pointer (some ⟨E, 0, none⟩), .int .i64 j, .int .i64 r] w fun e w' => e = .returned (.int .i64 0) ∧ ∃ v', Es N E R k lim now (upd V j v') (upd X j (X j ++ [(r, now)])) w' ∧ Did E R (V j) v' w w' := by
  obtain ⟨i0, hi0, hz0, hz1, hz2⟩ := info_parts info61
  obtain ⟨A, c, hV⟩ := (h.own j hj).form
  generalize hL : (X j).length = L at *
  have hj1 : (j : Int) < k := by omega
  have hj0 : (0 : Int) ≤ j := by omega
  have hl1 : ¬ ((L : Int) ≥ lim) := by omega
  have HH := Lib.hid h
  have HR := Lib.hid hr
  have HV := Lib.hid hV
  have HX := Lib.hid hL
  clear h hr hV hL
  go_enter Try.func8, Try.ntmps8
  go_wp2_with (first
    | (go_at_call 25; refine (HR.out _).mono ?_; rintro e w1 ⟨⟨a, b, l, rfl⟩, hb⟩
       have h1 := HH.out.below hb
       have c0 := h1.c0
       have c1 := h1.c1
       have c2 := h1.c2
       have cv := h1.cv j hj
       have fv := h1.fv j hj
       rw [HV.out] at cv
       have H1 := Lib.hid h1
       clear h1)
    | (go_at_call 26; refine (ehas_in H1.out j hj).mono ?_; rintro e w2 ⟨rfl, rfl⟩)
    | fail)
  go_region_held3 (fun w' => w'.cell? ⟨R, j * 2 + 1, none⟩ = some (.slice A L c) ∧ w'.cell? ⟨E, 1, none⟩ = some (.int .i64 lim)) (go_keep) (fail)
  all_goals
    go_wp2
    have lE := H1.out.lt
    have hRE := H1.out.ne
    have hmid : Mid w2 (E + 1) 61 2 (.slice A L c) L (prs (X j)) := by
      have := H1.out.own j hj
      rw [HV.out, HX.out] at this
      exact this
    have HM := Lib.hid hmid
    clear hmid
    have hRb : some R ≠ (Value.slice A L c).ownBlock := fun e => by
      have := (HM.out.lt R e.symm).1
      omega
    have HRb := Lib.hid hRb
    clear hRb
    have lR : R < w2.heap.size := by omega
    have hcv : ∀ o : Obj, (w2.alloc o).drew.drew.cell? ⟨R, j * 2 + 1, none⟩ = some (.slice A L c) := fun o => (World.cell?_alloc_lt w2 o ⟨R, j * 2 + 1, none⟩ lR).trans cv
    have hfv : ∀ o : Obj, (w2.alloc o).drew.drew.frozen? ⟨R, j * 2 + 1, none⟩ = false := fun o => (((Below.refl w2.heap.size w2).alloc (Nat.le_refl _) o).frozen (p := ⟨R, j * 2 + 1, none⟩) lR).trans fv
    have HCV := Lib.hid hcv
    have HFV := Lib.hid hfv
    clear hcv hfv
    go_region_law
      (refine step_append_mid (by rfl) _ _ _ (by rfl) (E + 1) 61 i0 _ 2 16 Try.underlying54 hi0 hz0 hz1 hz2 rfl (by omega) (.slice A L c) L (prs (X j)) (by rfl) (HM.out.same fun g hg => Below.heap_alloc w2 _ g (HM.out.lt g hg).2)
          ⟨w2.heap.size, 0, none⟩ 1 1 [.int .i64 r, .int .i64 now] (by rfl) (by rfl) (World.news_of_block (cs := #[.int .i64 r, .int .i64 now]) (t := 61) (fr := (0, 0)) (heap_alloc_new w2 _)) (by simp [Value.oneCell']) (by unfold maxLen; omega) (by omega) (by simp; omega) ?_
       intro v' w3 hm hran
       obtain ⟨A', c', rfl⟩ := hm.form
       have hc1 : w3.cell? ⟨R, j * 2 + 1, none⟩ = some (.slice A L c) := (hran.grown.cell_far _ (by simp; omega) HRb.out).trans (HCV.out _)
       have hf1 : w3.frozen? ⟨R, j * 2 + 1, none⟩ = false := (hran.grown.frozen_far _ (by simp; omega) HRb.out).trans (HFV.out _))
    all_goals
      have HMm := Lib.hid hm
      have HRn := Lib.hid hran
      clear hm hran
      go_wp2
      go_ret
      have hr2 : Ran (V j) (.slice A' (L + 1) c') w2 w3 := by
        rw [HV.out]
        refine ⟨⟨HRn.out.grown.os, HRn.out.grown.tape, HRn.out.grown.output, by have := HRn.out.grown.size; simp at this; omega, fun b hb hr => (HRn.out.grown.block b (by simp; omega) hr).trans (Below.heap_alloc w2 _ b hb)⟩, HRn.out.at_.imp id fun h g hg => by have := h g hg; simp at this; omega⟩
      have hm2 : Mid w3 (E + 1) 61 2 (.slice A' (L + 1) c') (X j ++ [(r, now)]).length (prs (X j ++ [(r, now)])) := by
        rw [List.length_append, HX.out, prs_append]; exact HMm.out
      obtain ⟨a1, a2⟩ := H1.out.setList j hj hr2 hm2
      refine ⟨rfl, _, a1, ⟨a2.os.trans hb.os, a2.tape.trans hb.tape, a2.output.trans hb.output, Nat.le_trans hb.size a2.size, fun b hbl h1 h2 h3 => (a2.block b (by have := hb.size; omega) h1 h2 h3).trans (hb.block b hbl), a2.at_.imp id fun h g hg => Nat.le_trans hb.size (h g hg)⟩⟩
end
end Go.Proofs.Ytafedpphecfgnaa
