/-
  The reference's copied; conditions: lengths.
-/
import Derived.Test.YtokjeglhmmijfaaPsq
namespace Go.Proofs.Ytokjeglhmmijfaa
open Go.RowKit Go.WideShapes Go.ChangeShapes
set_option linter.all false
set_option maxRecDepth 100000 in
theorem run_build0 (w : World) : Sem.run Try.prog (Instr.buildSlice 28 0 #[]) w = .ok (.slice (some ⟨w.heap.size, 0, none⟩) 0 0) (w.alloc (.cells #[] 3)) := by
  first
    | (simp [Instr.buildSlice, go_sem, Try.underlying28]; done)
    | (simp [Instr.buildSlice, go_sem, Try.underlying28]; rfl)
    | rfl
set_option maxRecDepth 100000 in
theorem wpList_build0 {ops : Array Oper} {rest : List Oper} {o : Oper} {a : Act} {w : World} {Q : Exit → Act → World → Prop} (hg : o.guard = none) (ho : o.op = .buildSlice 28 0 #[])
    (hK : wpList Try.prog ops Q rest (a.put o.dst (.slice (some ⟨w.heap.size, 0, none⟩) 0 0)) (w.alloc (.cells #[] 3))) : wpList Try.prog ops Q (o :: rest) a w :=
  wpList_plain hg fun K hK' => by
    have hrun := run_build0 w
    unfold Oper.wp execOp
    simp only [ho, Array.map_empty, List.map_toArray, List.map_nil, Sem.run_bind, Sem.run_pure, Result.andThen_ok, hrun]
    exact hK' _ _ hK
set_option maxRecDepth 100000 in
set_option maxHeartbeats 1600000 in
theorem copied_any (A : Option Addr) (n c : Nat) (L : List (List Nat)) (ws : List Ar) (w : World) (h : LK .i64 w w.heap.size A n c ws) (hl : ws.map Ar.l = L.map nb) (h16 : ∀ b ∈ L, b.length ≤ 16) (hn : n ≤ 1000000) :
    Calls Try.prog 40 #[.slice A n c] w (BlksP L w) := by
  obtain ⟨i0, hi0, hz0, hz1, hz2⟩ := info_parts info28
  obtain ⟨i1, hi1, hy0, hy1, hy2⟩ := info_parts infoI
  have HK := Lib.hid h
  have HEL : Hid (∀ k, k < n → (ws.getD k dA).l = nb (L.getD k [])) := Lib.hid (fun k hk => h.el hl k hk)
  have HLN : Hid (L.length = n) := Lib.hid (by have := congrArg List.length hl; rw [List.length_map, List.length_map, h.len] at this; exact this.symm)
  clear h hl
  go_enter Try.func40, Try.ntmps40
  go_wp2
  go_loopw [3, 5, 8] (fun s _ i v1 => ∃ (j : Nat) (V : Value), i = .int .i64 j ∧ j ≤ n ∧ s = V ∧ Hid (Below w.heap.size w v1) ∧ Hid (∃ own : List Ar, own.length = j ∧ OO v1 w.heap.size V own ∧ own.map Ar.l = (L.take j).map nb)) (fun _ _ i _ => n - (intOf i).toNat)
  case atStart => exact ⟨0, _, rfl, Nat.zero_le _, rfl, Lib.hid (Below.refl _ _), Lib.hid ⟨[], rfl, OO.nil _ _ (Nat.le_refl _), by simp⟩⟩
  case round =>
    obtain ⟨j, V, rfl, hj, hV, HY, HO⟩ := hrel
    subst hV
    obtain ⟨own, hol, hoo, hom⟩ := HO.out
    obtain ⟨A1, c1, e1⟩ := hoo.row.form
    rw [hol] at e1
    subst e1
    have j0 : (0 : Int) ≤ j := by omega
    by_cases hlt : j < n
    · have hjl : j < L.length := by rw [HLN.out]; exact hlt
      obtain ⟨ad, rfl, g0, s0⟩ := (HK.out.below HY.out).at_ hlt
      rw [HEL.out j hlt] at s0
      obtain ⟨e1, he1⟩ : ∃ e1, e1 = ws.getD j dA := ⟨_, rfl⟩
      rw [← he1] at g0 s0
      obtain ⟨B1, m1, d1, l1⟩ := e1
      replace g0 : _ = some (Value.slice B1 m1 d1) := g0
      replace s0 : SK .i64 wr w.heap.size B1 m1 d1 (nb (L.getD j [])) := s0
      obtain ⟨b, hb⟩ : ∃ b, b = L.getD j [] := ⟨_, rfl⟩
      rw [← hb] at s0
      have hml : b.length = m1 := by have := s0.len; rwa [nb_len] at this
      subst hml
      have HS := Lib.hid (s0.more HY.out.size)
      have hbl : b.length ≤ 16 := by rw [hb]; exact h16 _ (getD_mem hjl)
      have hcap : b.length ≤ maxLen := by have := s0.1; have := s0.2.1; omega
      have HN : Hid ((L.take j).map nb ++ [nb b] = (L.take (j + 1)).map nb) := Lib.hid (by
        rw [List.take_succ_eq_append_getElem hjl, hb, List.getD_eq_getElem?_getD, List.getElem?_eq_getElem hjl, List.map_append]; rfl)
      have HOO := Lib.hid hoo
      have HOM := Lib.hid hom
      have HOL := Lib.hid hol
      clear hb hjl he1 s0 hoo hom hol HO
      have HM0 : Hid (Mid (wr.alloc (.cells #[] 3)) w.heap.size 3 1 (.slice (some ⟨wr.heap.size, 0, none⟩) 0 0) 0 []) := Lib.hid ⟨rfl, .inr ⟨_, 0, 0, #[], rfl, HY.out.size, heap_alloc_new wr _, Nat.le_refl _, Nat.zero_le _, by simp, rfl⟩⟩
      have HS2 := Lib.hid (HS.out.below (below_alloc wr (.cells #[] 3)))
      go_wp2_with (first
        | (refine wpList_build0 rfl rfl ?_)
        | (refine wpList_append_src rfl (.tmp 13) (.tmp 14) 28 rfl w.heap.size 3 i1 _ 1 8 Try.underlying28 hi1 hy0 hy1 hy2 rfl (by omega) (.slice (some ⟨wr.heap.size, 0, none⟩) 0 0) 0 _ rfl HM0.out wr.heap.size _ b.length d1 (ks .i64 (nb b)) rfl HS2.out.2.2.2 (ks_one _ _) (by omega) (by omega) (by have := HY.out.size; simp; omega) ?_
           intro v5 w5 hmm hran
           have HM5 := Lib.hid hmm
           have HR5 := Lib.hid hran
           clear hmm hran
           obtain ⟨A5, c5, e5⟩ := HM5.out.form
           subst e5
           have ew : (0 : Nat) + b.length = b.length := by omega
           rw [ew] at HM5 ⊢
           have HB5 : Hid (Below wr.heap.size wr w5) := Lib.hid ((below_alloc wr (.cells #[] 3)).grown HR5.out.grown (by simp) (fun g hg => by simp [Value.ownBlock] at hg; omega))
           clear ew)
        | (refine wpList_append_mid rfl (.tmp 12) (.tmp 16) 53 rfl w.heap.size 28 i0 _ 1 24 Try.underlying53 hi0 hz0 hz1 hz2 rfl (by omega) (.slice A1 j c1) _ _ rfl ((by have := HOO.out.row; rw [HOL.out] at this; exact this.onb HB5.out : Mid w5 w.heap.size 28 1 (.slice A1 j c1) j (own.map Ar.v)).alloc_ _) ⟨w5.heap.size, 0, none⟩ 1 1 [.slice A5 b.length c5] rfl rfl (World.news_of_block (cs := #[.slice A5 b.length c5]) (t := 28) (fr := (0, 0)) (heap_alloc_new w5 _)) (by simp [Value.oneCell']) (by unfold maxLen; omega) (by omega) (by have := HY.out.size; have := HB5.out.size; simp; omega) ?_
           intro v' w6 hmm hran
           have HMM := Lib.hid hmm
           have HRN := Lib.hid hran
           clear hmm hran)
        | fail)
      have HB6 : Hid (Below w.heap.size w w6) := Lib.hid (((HY.out.trans (HB5.out.mono HY.out.size)).trans ((below_alloc w5 _).mono (by have := HY.out.size; have := HB5.out.size; omega))).grown HRN.out.grown (by have := HY.out.size; have := HB5.out.size; simp; omega) (fun g hg => (HOO.out.row.lt g hg).1))
      have HF : Hid (∃ own' : List Ar, own'.length = j + 1 ∧ OO w6 w.heap.size v' own' ∧ own'.map Ar.l = (L.take (j + 1)).map nb) := Lib.hid (by
        have hoo5 := (HOO.out.onb HB5.out).onb (below_alloc w5 (.cells #[.slice A5 b.length c5] 28))
        refine ⟨own ++ [⟨A5, b.length, c5, nb b⟩], by rw [List.length_append, HOL.out]; rfl, ?_, by rw [List.map_append, HOM.out, ← HN.out]; rfl⟩
        refine OO.snoc (w := w5.alloc (.cells #[.slice A5 b.length c5] 28)) (V := .slice A1 j c1) hoo5 ?_ (by rw [HOL.out]; exact HMM.out) HRN.out
        have := HM5.out.alloc_ (.cells #[.slice A5 b.length c5] 28)
        rw [List.nil_append] at this
        exact this)
      go_roundw
      case rel => exact ⟨j + 1, v', by go_num, by omega, rfl, HB6, HF⟩
      case measure => simp only [intOf]; omega
    · obtain rfl : n = j := by omega
      have HE : Hid (own.map Ar.l = L.map nb) := Lib.hid (by rw [hom, List.take_of_length_le (by rw [HLN.out]; exact Nat.le_refl _)])
      have HOO := Lib.hid hoo
      clear hom hoo HO
      go_wp2
      go_ret
      exact ⟨A1, c1, own, by rw [HLN.out]; rfl, HY.out, by rw [HLN.out]; exact HOO.out, HE.out⟩
end Go.Proofs.Ytokjeglhmmijfaa
