/-
  The law LinFull: walked; conditions: lengths.
-/
import Derived.Test.YtgihflmjihnbkaaLfB
namespace Go.Proofs.Ytgihflmjihnbkaa
open Go Go.RowKit Go.WideShapes Go.ChangeShapes
set_option linter.all false
/-- The law's writes that had no room. -/
def fewD (j : Nat) : List D := (List.range j).map fun i : Nat => (2 + (i : Int) % 2, 2, 0)
theorem fewD_len (j : Nat) : (fewD j).length = j := by simp [fewD]
theorem fewD_succ (j : Nat) : fewD (j + 1) = fewD j ++ [(2 + (j : Int) % 2, 2, 0)] := by simp [fewD, List.range_succ]
theorem fewD_is {j : Nat} {d : D} (h : d ∈ fewD j) : d = (2, 2, 0) ∨ d = (3, 2, 0) := by
  unfold fewD at h
  obtain ⟨i, _, rfl⟩ := List.mem_map.1 h
  rcases (by omega : (i : Int) % 2 = 0 ∨ (i : Int) % 2 = 1) with h | h
  · left; rw [h]; rfl
  · right; rw [h]; rfl
theorem fewD_few {j : Nat} {d : D} (h : d ∈ fewD j) : d ∈ few ∧ apB d = true := by
  rcases fewD_is h with rfl | rfl
  · exact ⟨by simp [few], by decide⟩
  · exact ⟨by simp [few], by decide⟩
theorem few_put {q : Nat} (h : q < 11) : ((2, 1 + (q : Int), 0) : D) ∈ few := by
  unfold few
  exact List.mem_append_left _ (List.mem_append_right _ (List.mem_map.2 ⟨q, List.mem_range.2 h, rfl⟩))
theorem few_get {q : Nat} (h : q < 11) : ((1, 1 + (q : Int), 0) : D) ∈ few := by
  unfold few
  exact List.mem_append_right _ (List.mem_map.2 ⟨q, List.mem_range.2 h, rfl⟩)
theorem getD_mem {l : List D} {j : Nat} (h : j < l.length) : l.getD j dd ∈ l := by rw [List.getD_eq_getElem?_getD, List.getElem?_eq_getElem h]; exact List.getElem_mem h
theorem replay_few (A : Option Addr) (j c : Nat) (w : World) (hx : Reads w w.heap.size 10 A j (rowD (fewD j))) (hj : j ≤ 100) :
    Calls Try.prog 5 #[.slice A j c] w fun e w' => e = .returned (.tuple #[.slice none 0 0, .int .i64 (-1)]) ∧ Below w.heap.size w w' :=
  replay_any A j c (fewD j) w hx (by omega) (fun d hd => (fewD_few hd).1) j (Nat.le_refl _) (fun i hi => (fewD_few (getD_mem (by rw [fewD_len]; exact hi))).2) (fun h => absurd h (by omega)) (-1) (by rw [if_pos rfl])
theorem replay_more (A : Option Addr) (j c : Nat) (d : D) (w : World) (hx : Reads w w.heap.size 10 A (j + 1) (rowD (fewD j ++ [d]))) (hj : j ≤ 100) (hd : d ∈ few) (b : Bool) (hb : apB d = b) (r : Int) (hr : r = if b = true then -1 else (j : Int)) :
    Calls Try.prog 5 #[.slice A (j + 1) c] w fun e w' => e = .returned (.tuple #[.slice none 0 0, .int .i64 r]) ∧ Below w.heap.size w w' := by
  have hmem : ∀ x ∈ fewD j ++ [d], x ∈ few := fun x hx => by
    rw [List.mem_append, List.mem_singleton] at hx
    rcases hx with hx | rfl
    · exact (fewD_few hx).1
    · exact hd
  have hlow : ∀ i, i < j → apB ((fewD j ++ [d]).getD i dd) = true := fun i hi => by
    rw [List.getD_eq_getElem?_getD, List.getElem?_append_left (by rw [fewD_len]; exact hi), ← List.getD_eq_getElem?_getD]
    exact (fewD_few (getD_mem (by rw [fewD_len]; exact hi))).2
  have hlast : (fewD j ++ [d]).getD j dd = d := by
    rw [List.getD_eq_getElem?_getD, List.getElem?_append_right (by rw [fewD_len]; exact Nat.le_refl _), fewD_len, Nat.sub_self]; rfl
  cases b with
  | true =>
    refine replay_any A (j + 1) c _ w hx (by omega) hmem (j + 1) (Nat.le_refl _) (fun i hi => ?_) (fun h => absurd h (by omega)) r (by rw [hr, if_pos rfl, if_pos rfl])
    rcases Nat.lt_or_ge i j with h | h
    · exact hlow i h
    · obtain rfl : i = j := by omega
      rw [hlast]; exact hb
  | false =>
    refine replay_any A (j + 1) c _ w hx (by omega) hmem j (by omega) hlow (fun _ => by rw [hlast]; exact hb) r (by rw [hr, if_neg (by simp), if_neg (by omega)])
theorem cell_of {w : World} {b : Nat} {cs : Array Value} {T : TypeId} {fr : Nat × Nat} (hb : w.heap[b]? = some (.cells cs T fr)) (j : Nat) : w.cell? ⟨b, j, none⟩ = cs[j]? := by simp [World.cell?, hb]
theorem reads_new (w : World) (k e v : Int) : Reads (w.alloc (.cells #[.int .i64 0, .int .i64 0, .int .i64 k, .string ⟨#[97]⟩, .string ⟨#[]⟩, .int .i64 0, .int .i64 e, .bool false, .int .i64 v, .slice none 0 0] 30)) (w.alloc (.cells #[.int .i64 0, .int .i64 0, .int .i64 k, .string ⟨#[97]⟩, .string ⟨#[]⟩, .int .i64 0, .int .i64 e, .bool false, .int .i64 v, .slice none 0 0] 30)).heap.size 10 (some ⟨w.heap.size, 0, none⟩) 1 (rowD [(k, e, v)]) := by
  refine ⟨rfl, fun _ => ⟨_, rfl, by simp, fun j u hu => ?_⟩⟩
  rw [Addr.add_lit, cell_of (heap_alloc_new w _)]
  simpa [rowD, cD] using hu
theorem mid_empty (w : World) : Mid (w.alloc (.cells #[] 30)) w.heap.size 30 10 (.slice (some ⟨w.heap.size, 0, none⟩) 0 0) 0 [] := ⟨rfl, .inr ⟨_, 0, 0, #[], rfl, Nat.le_refl _, heap_alloc_new w _, Nat.le_refl _, Nat.zero_le _, by simp, rfl⟩⟩
theorem info30 : (Try.prog.info? 30).map (fun i => (i.zero.map (fun z => z.cells.size), i.size, i.bytes)) = some (some 10, 10, 112) := by kernel_rfl
theorem info_parts30 : ∃ i z, Try.prog.info? 30 = some i ∧ i.zero = some z ∧ z.cells.size = 10 ∧ i.size = 10 ∧ i.bytes = 112 := by
  have h := info30
  rw [Option.map_eq_some_iff] at h
  obtain ⟨i, hi, h⟩ := h
  simp only [Prod.mk.injEq, Option.map_eq_some_iff] at h
  obtain ⟨⟨z, hz, h1⟩, h2, h3⟩ := h
  exact ⟨i, z, hi, hz, h1, h2, h3⟩
set_option maxRecDepth 100000 in
theorem run_build0 (w : World) : Sem.run Try.prog (Instr.buildSlice 23 0 #[]) w = .ok (.slice (some ⟨w.heap.size, 0, none⟩) 0 0) (w.alloc (.cells #[] 30)) := by
  first
    | (simp [Instr.buildSlice, go_sem, Try.underlying23]; done)
    | (simp [Instr.buildSlice, go_sem, Try.underlying23]; rfl)
    | rfl
set_option maxRecDepth 100000 in
theorem wpList_build0 {ops : Array Oper} {rest : List Oper} {o : Oper} {a : Act} {w : World} {Q : Exit → Act → World → Prop} (hg : o.guard = none) (ho : o.op = .buildSlice 23 0 #[])
    (hK : wpList Try.prog ops Q rest (a.put o.dst (.slice (some ⟨w.heap.size, 0, none⟩) 0 0)) (w.alloc (.cells #[] 30))) : wpList Try.prog ops Q (o :: rest) a w :=
  wpList_plain hg fun K hK' => by
    have hrun := run_build0 w
    unfold Oper.wp execOp
    simp only [ho, Array.map_empty, List.map_toArray, List.map_nil, Sem.run_bind, Sem.run_pure, Result.andThen_ok, hrun]
    exact hK' _ _ hK
set_option maxRecDepth 100000 in
set_option maxHeartbeats 9600000 in
theorem full_any (A0 : Option Addr) (n0 c0 : Nat) (er : Int) (w : World) (hm : n0 ≤ 9223372036854775807) :
    Calls Try.prog 3 #[.slice A0 n0 c0, .int .i64 er] w fun e w' => e = .returned (.bool true) ∧ Below w.heap.size w w' := by
  obtain ⟨i0, z0, hi0, hz0, hz3, hz1, hz2⟩ := info_parts30
  obtain ⟨q, hq, hq9⟩ := withinV_nat er 11 (by omega)
  have hw1 := within_any er 10 (by omega) (by omega)
  rw [show ((10 : Int) + 1) = ((11 : Nat) : Int) from by omega, hq] at hw1
  have HW1 := Lib.hid hw1
  clear hq hw1
  go_enter Try.func3, Try.ntmps3
  go_wp2
  go_loopw [5, 6] (fun d i wr => ∃ (j : Nat) (V : Value), i = .int .i64 j ∧ j ≤ n0 ∧ j ≤ 20 ∧ d = V ∧ Hid (Mid wr w.heap.size 30 10 V j (rowD (fewD j))) ∧ Hid (Below w.heap.size w wr)) (fun _ i _ => 20 - (intOf i).toNat)
  case atStart => exact ⟨0, _, rfl, Nat.zero_le _, Nat.zero_le _, rfl, Lib.hid (Mid.nil _ _ _ _), Lib.hid (Below.refl _ _)⟩
  case round =>
    obtain ⟨j, V, rfl, hj, hj2, hV, HM, HB⟩ := hrel
    subst hV
    obtain ⟨A1, c1, e1⟩ := HM.out.form
    subst e1
    have j0 : (0 : Int) ≤ j := by omega
    by_cases hlt : j < n0 ∧ j < 20
    · obtain ⟨hl1, hl2⟩ := hlt
      go_wp2_with (first
        | (refine wpList_append_src rfl (.tmp 27) (.tmp 34) 23 rfl w.heap.size 30 i0 _ 10 112 Try.underlying23 hi0 hz0 hz1 hz2 hz3 (by omega) (.slice A1 j c1) _ _ rfl (HM.out.onb (below_alloc _ _)) _ _ 1 1 _ rfl (reads_new wr _ _ _) (one_cells _) (by unfold maxLen; omega) (by omega) (by have := HB.out.size; simp; omega) ?_
           intro v' w4 hmm hran
           have HMM := Lib.hid hmm
           have HRN := Lib.hid hran
           clear hmm hran)
        | fail)
      have HMN : Hid (Mid w4 w.heap.size 30 10 v' (j + 1) (rowD (fewD (j + 1)))) := Lib.hid (by
        have := HMM.out
        rw [← rowD_app, ← fewD_succ] at this
        exact this)
      have HBN : Hid (Below w.heap.size w w4) := Lib.hid ((HB.out.trans ((below_alloc wr _).mono HB.out.size)).grown HRN.out.grown (by have := HB.out.size; simp; omega) (fun g hg => (HM.out.lt g hg).1))
      go_roundw
      case rel => exact ⟨j + 1, v', by go_num, by omega, by omega, rfl, HMN, HBN⟩
      case measure => simp only [intOf]; omega
    · have hcond : j < n0 ∧ ¬ j < 20 ∨ ¬ j < n0 := by omega
      obtain ⟨b24, hb24⟩ : ∃ b : Bool, b = decide (j < 20) := ⟨_, rfl⟩
      clear hb24
      have hne : q = 1 ∨ ¬ q = 1 := by omega
      rcases hcond with ⟨h1, h2⟩ | h1
      all_goals
        go_upto_region 11 with (first
          | (go_at_call 5; refine (replay_few A1 j c1 _ HM.out.reads (by omega)).mono ?_; rintro e w2 ⟨rfl, hb2⟩
             have HM := Lib.hid (HM.out.onb hb2)
             have HB := Lib.hid (HB.out.trans (hb2.mono HB.out.size))
             clear hb2)
          | (go_at_call 6; refine (HW1.out _).mono ?_; rintro e w3 ⟨rfl, rfl⟩)
          | fail)
        rcases hne with hq1 | hq1
        · subst hq1
          have HBW11 : Hid (Below w2.heap.size w2 w2) := Lib.hid (Below.refl _ _)
          go_upto_region 12 with (first
            | (refine wpList_build0 rfl rfl ?_)
            | (refine wpList_append_src rfl (.tmp 54) (.tmp 55) 23 rfl w2.heap.size 30 i0 _ 10 112 Try.underlying23 hi0 hz0 hz1 hz2 hz3 (by omega) _ 0 [] rfl (mid_empty _) _ _ j c1 _ rfl (HM.out.onb (below_alloc _ _)).reads (one_cells _) (by unfold maxLen; omega) (by omega) (by simp) ?_
               intro v5 w5 hmm hran
               rw [Nat.zero_add, List.nil_append] at hmm
               have HM5 := Lib.hid hmm
               have HB5 : Hid (Below w2.heap.size w2 w5) := Lib.hid ((below_alloc w2 (.cells #[] 30)).grown hran.grown (by simp) (fun g hg => ((mid_empty w2).lt g hg).1))
               clear hmm hran
               obtain ⟨A5, c5, e5⟩ := HM5.out.form
               subst e5)
            | (refine wpList_append_src rfl (.tmp 56) (.tmp 61) 23 rfl w2.heap.size 30 i0 _ 10 112 Try.underlying23 hi0 hz0 hz1 hz2 hz3 (by omega) (.slice A5 j c5) j _ rfl (HM5.out.onb (below_alloc _ _)) _ _ 1 1 _ rfl (reads_new w5 _ _ _) (one_cells _) (by unfold maxLen; omega) (by omega) (by have := HB5.out.size; simp; omega) ?_
               intro v6 w6 hmm hran
               rw [← rowD_app] at hmm
               have HM6 := Lib.hid hmm
               have HB6 : Hid (Below w2.heap.size w2 w6) := Lib.hid ((HB5.out.trans ((below_alloc w5 _).mono HB5.out.size)).grown hran.grown (by have := HB5.out.size; simp; omega) (fun g hg => (HM5.out.lt g hg).1))
               clear hmm hran
               obtain ⟨A6, c6, e6⟩ := HM6.out.form
               subst e6)
            | (go_at_call 5; refine (replay_more A6 j c6 (2, 2, 0) w6 HM6.out.reads (by omega) (by simp [few]) true (by decide) (-1) (by simp)).mono ?_; rintro e w7 ⟨rfl, hb7⟩
               have HB7 : Hid (Below w2.heap.size w2 w7) := Lib.hid (HB6.out.trans (hb7.mono HB6.out.size))
               clear hb7)
            | fail)
          have HM := Lib.hid (HM.out.onb HB7.out)
          have HB := Lib.hid (HB.out.trans (HB7.out.mono HB.out.size))
          clear HB7 HB6 HB5 HM5 HM6 HBW11
          obtain ⟨W11, hW11⟩ : ∃ W' : World, W' = w7 := ⟨_, rfl⟩
          rw [← hW11] at HM HB ⊢
          clear hW11
          have HBW12 : Hid (Below W11.heap.size W11 W11) := Lib.hid (Below.refl _ _)
          go_upto_region 13 with (first
            | (refine wpList_build0 rfl rfl ?_)
            | (refine wpList_append_src rfl (.tmp 67) (.tmp 68) 23 rfl W11.heap.size 30 i0 _ 10 112 Try.underlying23 hi0 hz0 hz1 hz2 hz3 (by omega) _ 0 [] rfl (mid_empty _) _ _ j c1 _ rfl (HM.out.onb (below_alloc _ _)).reads (one_cells _) (by unfold maxLen; omega) (by omega) (by simp) ?_
               intro v5 w5 hmm hran
               rw [Nat.zero_add, List.nil_append] at hmm
               have HM5 := Lib.hid hmm
               have HB5 : Hid (Below W11.heap.size W11 w5) := Lib.hid ((below_alloc W11 (.cells #[] 30)).grown hran.grown (by simp) (fun g hg => ((mid_empty W11).lt g hg).1))
               clear hmm hran
               obtain ⟨A5, c5, e5⟩ := HM5.out.form
               subst e5)
            | (refine wpList_append_src rfl (.tmp 69) (.tmp 74) 23 rfl W11.heap.size 30 i0 _ 10 112 Try.underlying23 hi0 hz0 hz1 hz2 hz3 (by omega) (.slice A5 j c5) j _ rfl (HM5.out.onb (below_alloc _ _)) _ _ 1 1 _ rfl (reads_new w5 _ _ _) (one_cells _) (by unfold maxLen; omega) (by omega) (by have := HB5.out.size; simp; omega) ?_
               intro v6 w6 hmm hran
               rw [← rowD_app] at hmm
               have HM6 := Lib.hid hmm
               have HB6 : Hid (Below W11.heap.size W11 w6) := Lib.hid ((HB5.out.trans ((below_alloc w5 _).mono HB5.out.size)).grown hran.grown (by have := HB5.out.size; simp; omega) (fun g hg => (HM5.out.lt g hg).1))
               clear hmm hran
               obtain ⟨A6, c6, e6⟩ := HM6.out.form
               subst e6)
            | (go_at_call 5; refine (replay_more A6 j c6 (1, 2, 0) w6 HM6.out.reads (by omega) (few_get (q := 1) (by omega)) false (by simp [apB]) (j : Int) (by simp)).mono ?_; rintro e w7 ⟨rfl, hb7⟩
               have HB7 : Hid (Below W11.heap.size W11 w7) := Lib.hid (HB6.out.trans (hb7.mono HB6.out.size))
               clear hb7)
            | fail)
          have HM := Lib.hid (HM.out.onb HB7.out)
          have HB := Lib.hid (HB.out.trans (HB7.out.mono HB.out.size))
          clear HB7 HB6 HB5 HM5 HM6 HBW12
          obtain ⟨W12, hW12⟩ : ∃ W' : World, W' = w7 := ⟨_, rfl⟩
          rw [← hW12] at HM HB ⊢
          clear hW12
          have HBW13 : Hid (Below W12.heap.size W12 W12) := Lib.hid (Below.refl _ _)
          go_upto_region 14 with (first
            | (refine wpList_build0 rfl rfl ?_)
            | (refine wpList_append_src rfl (.tmp 80) (.tmp 81) 23 rfl W12.heap.size 30 i0 _ 10 112 Try.underlying23 hi0 hz0 hz1 hz2 hz3 (by omega) _ 0 [] rfl (mid_empty _) _ _ j c1 _ rfl (HM.out.onb (below_alloc _ _)).reads (one_cells _) (by unfold maxLen; omega) (by omega) (by simp) ?_
               intro v5 w5 hmm hran
               rw [Nat.zero_add, List.nil_append] at hmm
               have HM5 := Lib.hid hmm
               have HB5 : Hid (Below W12.heap.size W12 w5) := Lib.hid ((below_alloc W12 (.cells #[] 30)).grown hran.grown (by simp) (fun g hg => ((mid_empty W12).lt g hg).1))
               clear hmm hran
               obtain ⟨A5, c5, e5⟩ := HM5.out.form
               subst e5)
            | (refine wpList_append_src rfl (.tmp 82) (.tmp 86) 23 rfl W12.heap.size 30 i0 _ 10 112 Try.underlying23 hi0 hz0 hz1 hz2 hz3 (by omega) (.slice A5 j c5) j _ rfl (HM5.out.onb (below_alloc _ _)) _ _ 1 1 _ rfl (reads_new w5 _ _ _) (one_cells _) (by unfold maxLen; omega) (by omega) (by have := HB5.out.size; simp; omega) ?_
               intro v6 w6 hmm hran
               rw [← rowD_app] at hmm
               have HM6 := Lib.hid hmm
               have HB6 : Hid (Below W12.heap.size W12 w6) := Lib.hid ((HB5.out.trans ((below_alloc w5 _).mono HB5.out.size)).grown hran.grown (by have := HB5.out.size; simp; omega) (fun g hg => (HM5.out.lt g hg).1))
               clear hmm hran
               obtain ⟨A6, c6, e6⟩ := HM6.out.form
               subst e6)
            | (go_at_call 5; refine (replay_more A6 j c6 (2, 2, 1) w6 HM6.out.reads (by omega) (by simp [few]) false (by decide) (j : Int) (by simp)).mono ?_; rintro e w7 ⟨rfl, hb7⟩
               have HB7 : Hid (Below W12.heap.size W12 w7) := Lib.hid (HB6.out.trans (hb7.mono HB6.out.size))
               clear hb7)
            | fail)
          have HM := Lib.hid (HM.out.onb HB7.out)
          have HB := Lib.hid (HB.out.trans (HB7.out.mono HB.out.size))
          clear HB7 HB6 HB5 HM5 HM6 HBW13
          obtain ⟨W13, hW13⟩ : ∃ W' : World, W' = w7 := ⟨_, rfl⟩
          rw [← hW13] at HM HB ⊢
          clear hW13
          go_wp2_with (first
            | (go_at_call 7; refine (linRuns_any _).mono ?_; rintro e w9 ⟨rfl, hb9⟩
               have HB := Lib.hid (HB.out.trans (hb9.mono HB.out.size)))
            | fail)
          go_ret
          exact ⟨rfl, HB.out⟩
        · have hq2 : ¬ 1 + (q : Int) = 2 := by omega
          have g1 : ((j : Int) == -1) = false := by first | (simp; done) | (simp; omega)
          have g2 : (1 + (q : Int) == 2) = false := by first | (simp; done) | (simp; omega)
          have HBW11 : Hid (Below w2.heap.size w2 w2) := Lib.hid (Below.refl _ _)
          go_upto_region 12 with (first
            | (refine wpList_build0 rfl rfl ?_)
            | (refine wpList_append_src rfl (.tmp 54) (.tmp 55) 23 rfl w2.heap.size 30 i0 _ 10 112 Try.underlying23 hi0 hz0 hz1 hz2 hz3 (by omega) _ 0 [] rfl (mid_empty _) _ _ j c1 _ rfl (HM.out.onb (below_alloc _ _)).reads (one_cells _) (by unfold maxLen; omega) (by omega) (by simp) ?_
               intro v5 w5 hmm hran
               rw [Nat.zero_add, List.nil_append] at hmm
               have HM5 := Lib.hid hmm
               have HB5 : Hid (Below w2.heap.size w2 w5) := Lib.hid ((below_alloc w2 (.cells #[] 30)).grown hran.grown (by simp) (fun g hg => ((mid_empty w2).lt g hg).1))
               clear hmm hran
               obtain ⟨A5, c5, e5⟩ := HM5.out.form
               subst e5)
            | (refine wpList_append_src rfl (.tmp 56) (.tmp 61) 23 rfl w2.heap.size 30 i0 _ 10 112 Try.underlying23 hi0 hz0 hz1 hz2 hz3 (by omega) (.slice A5 j c5) j _ rfl (HM5.out.onb (below_alloc _ _)) _ _ 1 1 _ rfl (reads_new w5 _ _ _) (one_cells _) (by unfold maxLen; omega) (by omega) (by have := HB5.out.size; simp; omega) ?_
               intro v6 w6 hmm hran
               rw [← rowD_app] at hmm
               have HM6 := Lib.hid hmm
               have HB6 : Hid (Below w2.heap.size w2 w6) := Lib.hid ((HB5.out.trans ((below_alloc w5 _).mono HB5.out.size)).grown hran.grown (by have := HB5.out.size; simp; omega) (fun g hg => (HM5.out.lt g hg).1))
               clear hmm hran
               obtain ⟨A6, c6, e6⟩ := HM6.out.form
               subst e6)
            | (go_at_call 5; refine (replay_more A6 j c6 (2, 1 + (q : Int), 0) w6 HM6.out.reads (by omega) (few_put hq9) false (by simp [apB, hq2]) (j : Int) (by simp)).mono ?_; rintro e w7 ⟨rfl, hb7⟩
               have HB7 : Hid (Below w2.heap.size w2 w7) := Lib.hid (HB6.out.trans (hb7.mono HB6.out.size))
               clear hb7)
            | fail)
          have HM := Lib.hid (HM.out.onb HB7.out)
          have HB := Lib.hid (HB.out.trans (HB7.out.mono HB.out.size))
          clear HB7 HB6 HB5 HM5 HM6 HBW11
          obtain ⟨W11, hW11⟩ : ∃ W' : World, W' = w7 := ⟨_, rfl⟩
          rw [← hW11] at HM HB ⊢
          clear hW11
          have HBW12 : Hid (Below W11.heap.size W11 W11) := Lib.hid (Below.refl _ _)
          go_upto_region 13 with (first
            | (refine wpList_build0 rfl rfl ?_)
            | (refine wpList_append_src rfl (.tmp 67) (.tmp 68) 23 rfl W11.heap.size 30 i0 _ 10 112 Try.underlying23 hi0 hz0 hz1 hz2 hz3 (by omega) _ 0 [] rfl (mid_empty _) _ _ j c1 _ rfl (HM.out.onb (below_alloc _ _)).reads (one_cells _) (by unfold maxLen; omega) (by omega) (by simp) ?_
               intro v5 w5 hmm hran
               rw [Nat.zero_add, List.nil_append] at hmm
               have HM5 := Lib.hid hmm
               have HB5 : Hid (Below W11.heap.size W11 w5) := Lib.hid ((below_alloc W11 (.cells #[] 30)).grown hran.grown (by simp) (fun g hg => ((mid_empty W11).lt g hg).1))
               clear hmm hran
               obtain ⟨A5, c5, e5⟩ := HM5.out.form
               subst e5)
            | (refine wpList_append_src rfl (.tmp 69) (.tmp 74) 23 rfl W11.heap.size 30 i0 _ 10 112 Try.underlying23 hi0 hz0 hz1 hz2 hz3 (by omega) (.slice A5 j c5) j _ rfl (HM5.out.onb (below_alloc _ _)) _ _ 1 1 _ rfl (reads_new w5 _ _ _) (one_cells _) (by unfold maxLen; omega) (by omega) (by have := HB5.out.size; simp; omega) ?_
               intro v6 w6 hmm hran
               rw [← rowD_app] at hmm
               have HM6 := Lib.hid hmm
               have HB6 : Hid (Below W11.heap.size W11 w6) := Lib.hid ((HB5.out.trans ((below_alloc w5 _).mono HB5.out.size)).grown hran.grown (by have := HB5.out.size; simp; omega) (fun g hg => (HM5.out.lt g hg).1))
               clear hmm hran
               obtain ⟨A6, c6, e6⟩ := HM6.out.form
               subst e6)
            | (go_at_call 5; refine (replay_more A6 j c6 (1, 1 + (q : Int), 0) w6 HM6.out.reads (by omega) (few_get hq9) false (by simp [apB]) (j : Int) (by simp)).mono ?_; rintro e w7 ⟨rfl, hb7⟩
               have HB7 : Hid (Below W11.heap.size W11 w7) := Lib.hid (HB6.out.trans (hb7.mono HB6.out.size))
               clear hb7)
            | fail)
          have HM := Lib.hid (HM.out.onb HB7.out)
          have HB := Lib.hid (HB.out.trans (HB7.out.mono HB.out.size))
          clear HB7 HB6 HB5 HM5 HM6 HBW12
          obtain ⟨W12, hW12⟩ : ∃ W' : World, W' = w7 := ⟨_, rfl⟩
          rw [← hW12] at HM HB ⊢
          clear hW12
          have HBW13 : Hid (Below W12.heap.size W12 W12) := Lib.hid (Below.refl _ _)
          go_upto_region 14 with (first
            | (refine wpList_build0 rfl rfl ?_)
            | (refine wpList_append_src rfl (.tmp 80) (.tmp 81) 23 rfl W12.heap.size 30 i0 _ 10 112 Try.underlying23 hi0 hz0 hz1 hz2 hz3 (by omega) _ 0 [] rfl (mid_empty _) _ _ j c1 _ rfl (HM.out.onb (below_alloc _ _)).reads (one_cells _) (by unfold maxLen; omega) (by omega) (by simp) ?_
               intro v5 w5 hmm hran
               rw [Nat.zero_add, List.nil_append] at hmm
               have HM5 := Lib.hid hmm
               have HB5 : Hid (Below W12.heap.size W12 w5) := Lib.hid ((below_alloc W12 (.cells #[] 30)).grown hran.grown (by simp) (fun g hg => ((mid_empty W12).lt g hg).1))
               clear hmm hran
               obtain ⟨A5, c5, e5⟩ := HM5.out.form
               subst e5)
            | (refine wpList_append_src rfl (.tmp 82) (.tmp 86) 23 rfl W12.heap.size 30 i0 _ 10 112 Try.underlying23 hi0 hz0 hz1 hz2 hz3 (by omega) (.slice A5 j c5) j _ rfl (HM5.out.onb (below_alloc _ _)) _ _ 1 1 _ rfl (reads_new w5 _ _ _) (one_cells _) (by unfold maxLen; omega) (by omega) (by have := HB5.out.size; simp; omega) ?_
               intro v6 w6 hmm hran
               rw [← rowD_app] at hmm
               have HM6 := Lib.hid hmm
               have HB6 : Hid (Below W12.heap.size W12 w6) := Lib.hid ((HB5.out.trans ((below_alloc w5 _).mono HB5.out.size)).grown hran.grown (by have := HB5.out.size; simp; omega) (fun g hg => (HM5.out.lt g hg).1))
               clear hmm hran
               obtain ⟨A6, c6, e6⟩ := HM6.out.form
               subst e6)
            | (go_at_call 5; refine (replay_more A6 j c6 (2, 2, 1) w6 HM6.out.reads (by omega) (by simp [few]) false (by decide) (j : Int) (by simp)).mono ?_; rintro e w7 ⟨rfl, hb7⟩
               have HB7 : Hid (Below W12.heap.size W12 w7) := Lib.hid (HB6.out.trans (hb7.mono HB6.out.size))
               clear hb7)
            | fail)
          have HM := Lib.hid (HM.out.onb HB7.out)
          have HB := Lib.hid (HB.out.trans (HB7.out.mono HB.out.size))
          clear HB7 HB6 HB5 HM5 HM6 HBW13
          obtain ⟨W13, hW13⟩ : ∃ W' : World, W' = w7 := ⟨_, rfl⟩
          rw [← hW13] at HM HB ⊢
          clear hW13
          go_wp2_with (first
            | (go_at_call 7; refine (linRuns_any _).mono ?_; rintro e w9 ⟨rfl, hb9⟩
               have HB := Lib.hid (HB.out.trans (hb9.mono HB.out.size)))
            | fail)
          go_ret
          exact ⟨rfl, HB.out⟩
end Go.Proofs.Ytgihflmjihnbkaa
