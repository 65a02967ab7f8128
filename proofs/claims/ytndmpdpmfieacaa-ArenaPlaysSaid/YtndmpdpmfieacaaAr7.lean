/-
  Free; conditions: few slots, a further generation.
-/
import Derived.Test.YtndmpdpmfieacaaAr6
namespace Go.Proofs.Ytndmpdpmfieacaa
open Go.RowKit Go.WideShapes Go.ChangeShapes
set_option linter.all false
section
variable {N B S k : Nat} {sl : List Sl} {P I : Nat → Nat} {V : Nat → Value} {xs : Nat → List Int} {w w' : World}
theorem below_drew (w : World) : Below w.heap.size w w.drew := (Below.refl _ _).drew
theorem free_no (h : Ar N B S k 5 sl P I V xs w) (hn : sl.length ≤ 1024) {r : Int} {z : Nat} (hw : Why sl r z) :
    Calls Try.prog 18 #[.pointer (some ⟨B, 0, none⟩), .int .i64 r] w fun e w' => e = .returned (.int .i64 (z : Nat)) ∧ w' = w := by
  have hz : z = 1 ∨ z = 3 ∨ z = 4 := by cases hw <;> simp
  have hs := slot_no h hn hw
  clear h
  rcases hz with rfl | rfl | rfl
  all_goals
    go_enter Try.func18, Try.ntmps18
    go_wp2_with (first
      | (go_at_call 51; refine hs.mono ?_; rintro e w' ⟨rfl, rfl⟩)
      | fail)
    go_ret
    exact ⟨rfl, rfl⟩
/-- What a slot is behind Free. -/
def freed (s : Sl) : Sl := { s with ws := List.replicate (szN s.cls) poisonV, gen := s.gen + 1, live := false }
theorem wv_rep (n : Nat) (x : Int) : wv (List.replicate n x) = List.replicate n (Value.int .u64 x) := by simp [wv]
/-- The box's pools. -/
theorem Ar.boxc (h : Ar N B S k 5 sl P I V xs w) {c : Nat} (hc : c < 5) : w.cell? ⟨B, 1 + c, none⟩ = some (.pointer (some ⟨P c, 0, none⟩)) := by
  rw [cell_of h.box]
  have : c = 0 ∨ c = 1 ∨ c = 2 ∨ c = 3 ∨ c = 4 := by omega
  rcases this with rfl | rfl | rfl | rfl | rfl <;> rfl
theorem foot_up {c : Nat} {v' : Value} (hk : Kept (P c) (I c) (V c) v' w w') {b : Nat} (hb : Foot B S 5 sl P I (up V c v') b) : Foot B S 5 sl P I V b ∨ w.heap.size ≤ b := by
  rcases hb with h | h | h | ⟨d, hd, h | h | h⟩
  · exact .inl (.inl h)
  · exact .inl (.inr (.inl h))
  · exact .inl (.inr (.inr (.inl h)))
  · exact .inl (.inr (.inr (.inr ⟨d, hd, .inl h⟩)))
  · exact .inl (.inr (.inr (.inr ⟨d, hd, .inr (.inl h)⟩)))
  · by_cases e : d = c
    · subst e
      rw [up_same] at h
      rcases Nat.lt_or_ge b w.heap.size with h1 | h1
      · exact .inl (.inr (.inr (.inr ⟨d, hd, .inr (.inr (hk.row b h1 h.symm).symm)⟩)))
      · exact .inr h1
    · rw [up_other _ _ e] at h
      exact .inl (.inr (.inr (.inr ⟨d, hd, .inr (.inr h)⟩)))
theorem Mv.to {F F' F'' : Nat → Prop} (h : Mv F F' w w') (hf : ∀ b, F'' b → F' b) : Mv F F'' w w' := ⟨h.os, h.tape, h.output, h.size, h.block, fun b hb => h.foot b (hf b hb)⟩
theorem foot_len {q : Nat} {sl' : List Sl} (hl : sl'.length = sl.length) (hb : ∀ j, (sl'.getD j dS).blk = (sl.getD j dS).blk) {b : Nat} (h : Foot B S q sl' P I V b) : Foot B S q sl P I V b := by
  rcases h with h | h | ⟨j, hj, h⟩ | h
  · exact .inl h
  · exact .inr (.inl h)
  · exact .inr (.inr (.inl ⟨j, hl ▸ hj, by rw [h, hb]⟩))
  · exact .inr (.inr (.inr h))
theorem Mv.of_kept {c : Nat} (hc : c < 5) {v' : Value} (hk : Kept (P c) (I c) (V c) v' w w') : Mv (Foot B S 5 sl P I V) (Foot B S 5 sl P I (up V c v')) w w' :=
  ⟨hk.os, hk.tape, hk.output, hk.size, fun b hb hn => hk.block b hb (fun e => hn (.inr (.inr (.inr ⟨c, hc, .inl e⟩)))) (fun e => hn (.inr (.inr (.inr ⟨c, hc, .inr (.inl e)⟩)))) (fun e => hn (.inr (.inr (.inr ⟨c, hc, .inr (.inr e.symm)⟩)))), fun b hb => foot_up hk hb⟩
set_option maxRecDepth 100000 in
set_option maxHeartbeats 1600000 in
theorem free_ok (h : Ar N B S k 5 sl P I V xs w) (hn : sl.length ≤ 1024) {r : Int} {i : Nat} (hw : Live sl r i) (hg : (sl.getD i dS).gen < 1073741824) (hik : i < k) (hx : (i : Int) ∉ xs (sl.getD i dS).cls) (hl : (xs (sl.getD i dS).cls).length < 900000) :
    Calls Try.prog 18 #[.pointer (some ⟨B, 0, none⟩), .int .i64 r] w fun e w' => e = .returned (.int .i64 0) ∧ ∃ v', Ar N B S k 5 (sl.set i (freed (sl.getD i dS))) P I (up V (sl.getD i dS).cls v') (up xs (sl.getD i dS).cls (pushF (xs (sl.getD i dS).cls) i)) w' ∧
      Mv (Foot B S 5 sl P I V) (Foot B S 5 (sl.set i (freed (sl.getD i dS))) P I (up V (sl.getD i dS).cls v')) w w' := by
  have hs := slot_ok h hn hw
  obtain ⟨h1, h2, h3, h4⟩ := h.wds i hw.lt
  have hle := szN_le (sl.getD i dS).cls
  have hlt := hw.lt
  have hSB := h.SB
  have hpo := poison_any S (i * 4) _ _ _ w (h.row.c3 i hw.lt) h1 (by rw [wv_len, h2]) (by omega) (by omega)
  obtain ⟨s, hsd⟩ : ∃ s, s = sl.getD i dS := ⟨_, rfl⟩
  rw [← hsd] at hpo h1 h2 h3 h4 hle hg hx hl ⊢
  have HA := Lib.hid h
  have HE : Hid (slotV r = i) := Lib.hid hw.slot
  have HG : Hid (goodP r) := Lib.hid hw.good
  have HS := Lib.hid hsd
  have HX := Lib.hid hx
  clear h hw h1 hsd hx
  go_enter Try.func18, Try.ntmps18
  go_upto_region 4 with (first
    | (go_at_call 51; refine hs.mono ?_; rintro e w' ⟨rfl, rfl⟩)
    | fail)
  go_upto_region 5 with (first
    | (go_at_call 54; refine hpo.mono ?_; rintro e w1 ⟨rfl, hb1, hg1⟩
       have HA1 := Lib.hid (HA.out.words (i := i) hlt (List.replicate (szN s.cls) poisonV) (by rw [← HS.out]; simp) (by rw [← HS.out, wv_rep]; exact hb1) (fun b hb hne => hg1.block b hb (fun e => by injection e with e; exact hne (by rw [← HS.out]; exact e))))
       have HM1 : Hid (Mv (Foot B S 5 sl P I V) (Foot B S 5 sl P I V) _ w1) := Lib.hid (Mv.of_grown hg1 (.inr (.inr (.inl ⟨i, hlt, by rw [HS.out]⟩))) (fun _ hx => .inl hx))
       clear hb1 hg1)
    | fail)
  rw [← HS.out] at HA1
  have hl1 : i < (sl.set i { s with ws := List.replicate (szN s.cls) poisonV }).length := by rw [List.length_set]; exact hlt
  have hs1 : (sl.set i { s with ws := List.replicate (szN s.cls) poisonV }).getD i dS = { s with ws := List.replicate (szN s.cls) poisonV } := by rw [getD_set hlt, if_pos rfl]
  have c1 := HA1.out.row.c1 i hl1
  have fr := HA1.out.row.fr (i * 4 + 1)
  rw [hs1] at c1
  have hgw : IntKind.i64.wrap ((s.gen : Int) + 1) = (s.gen : Int) + 1 := IntWalk.i64_in _ (by omega)
  have hgl : (s.gen : Int) + 1 ≤ 1073741824 := by omega
  have HA2 := Lib.hid (HA1.out.setGen hl1 (s.gen + 1))
  rw [hs1, List.set_set] at HA2
  have HM2 : Hid (Mv (Foot B S 5 sl P I V) (Foot B S 5 sl P I V) w1 (w1.setCell ⟨S, i * 4 + 1, none⟩ (.int .i64 ((s.gen + 1 : Nat) : Int)))) := Lib.hid (Mv.of_set (.inr (.inl rfl)) (fun _ hx => hx))
  rw [show (((s.gen + 1 : Nat) : Int)) = (s.gen : Int) + 1 from rfl] at HA2 HM2
  clear hl1 hs1
  go_upto_region 6 with (fail)
  obtain ⟨w2, hw2⟩ : ∃ w2, w2 = w1.setCell ⟨S, i * 4 + 1, none⟩ (.int .i64 ((s.gen : Int) + 1)) := ⟨_, rfl⟩
  rw [← hw2] at HA2 HM2 ⊢
  clear hw2 c1 fr
  have hl2 : i < (sl.set i { s with ws := List.replicate (szN s.cls) poisonV, gen := s.gen + 1 }).length := by rw [List.length_set]; exact hlt
  have hs2 : (sl.set i { s with ws := List.replicate (szN s.cls) poisonV, gen := s.gen + 1 }).getD i dS = { s with ws := List.replicate (szN s.cls) poisonV, gen := s.gen + 1 } := by rw [getD_set hlt, if_pos rfl]
  have c1 := HA2.out.row.c1 i hl2
  have c2 := HA2.out.row.c2 i hl2
  have fr := HA2.out.row.fr (i * 4 + 2)
  rw [hs2] at c1 c2
  rw [show ((({ s with ws := List.replicate (szN s.cls) poisonV, gen := s.gen + 1 } : Sl).gen : Nat) : Int) = (s.gen : Int) + 1 from rfl] at c1
  have HA3 := Lib.hid (HA2.out.setLive hl2 false)
  rw [hs2, List.set_set] at HA3
  have HM3 : Hid (Mv (Foot B S 5 sl P I V) (Foot B S 5 sl P I V) w2 (w2.setCell ⟨S, i * 4 + 2, none⟩ (.bool false))) := Lib.hid (Mv.of_set (.inr (.inl rfl)) (fun _ hx => hx))
  clear hl2 hs2
  go_upto_region 8 with (fail)
  obtain ⟨w3, hw3⟩ : ∃ w3, w3 = w2.setCell ⟨S, i * 4 + 2, none⟩ (.bool false) := ⟨_, rfl⟩
  rw [← hw3] at HA3 HM3 ⊢
  clear hw3 c1 c2 fr
  go_upto_region 9 with (first
    | (go_at_call 55; refine (parts_good r HG.out w3).mono ?_; rw [HE.out]; rintro e w' ⟨rfl, rfl⟩)
    | fail)
  have hl3 : i < (sl.set i (freed s)).length := by rw [List.length_set]; exact hlt
  have hs3 : (sl.set i (freed s)).getD i dS = freed s := by rw [getD_set hlt, if_pos rfl]
  replace HA3 : Hid (Ar N B S k 5 (sl.set i (freed s)) P I V xs w3) := HA3
  have c0 := HA3.out.row.c0 i hl3
  rw [hs3] at c0
  replace c0 : w3.cell? ⟨S, i * 4, none⟩ = some (.int .i64 (s.cls : Nat)) := c0
  have cb := HA3.out.boxc h3
  have hpu := Lib.hid (fun w (hb : Below w3.heap.size w3 w) => st_put_yes ((HA3.out.on hb).pl s.cls h3) i hik HX.out hl)
  have k0 : (0 : Int) ≤ s.cls := by omega
  have k1 : (s.cls : Int) < 5 := by omega
  clear hl3 hs3 hs hpo hl
  generalize hcc : s.cls = c at *
  have HCc := Lib.hid hcc
  clear hcc
  go_region_held3 (fun W' => W'.cell? ⟨S, i * 4, none⟩ = some (.int .i64 (c : Nat)) ∧ W'.cell? ⟨B, 1 + c, none⟩ = some (.pointer (some ⟨P c, 0, none⟩))) (first | (go_keep; done) | exact ⟨c0, cb⟩) (first
    | (go_at_call 48; refine (hpu.out _ (by first | exact Below.refl _ _ | exact below_drew _)).mono ?_; rintro e w4 ⟨rfl, v', hst, hkp⟩
       have HA4 := Lib.hid ((HA3.out.on (below_drew w3)).pool h3 hst hkp)
       have HM4 := Lib.hid ((Mv.of_below (F := Foot B S 5 sl P I V) (below_drew w3)).trans (Mv.of_kept (sl := sl) (B := B) (S := S) h3 hkp))
       have c0 : w4.cell? ⟨S, i * 4, none⟩ = some (.int .i64 (c : Nat)) := by
         have := HA4.out.row.c0 i (by rw [List.length_set]; exact hlt)
         rw [getD_set hlt, if_pos rfl] at this
         rw [this, show (freed s).cls = s.cls from rfl, HCc.out]
       have cb := HA4.out.boxc h3
       clear hst hkp)
    | fail)
  all_goals
    go_wp2
    go_ret
    refine ⟨rfl, v', ?_, ?_⟩
    · rw [HCc.out]; exact HA4.out
    · rw [HCc.out]
      exact (HM1.out.trans (HM2.out.trans (HM3.out.trans HM4.out))).to (fun b hb => foot_len (List.length_set ..) (fun j => by rw [getD_set hlt]; split; rename_i e; rw [e, ← HS.out]; rfl; rfl) hb)
end
end Go.Proofs.Ytndmpdpmfieacaa
