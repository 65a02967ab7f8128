/-
  The pool told by the list of its free numbers: New, Put, Take, Has, Len; conditions: sizes.
-/
import Derived.Test.YtndmpdpmfieacaaPm3
import Derived.Test.YtndmpdpmfieacaaPl3
namespace Go.Proofs.Ytndmpdpmfieacaa
open Go.RowKit Go.WideShapes Go.ChangeShapes
set_option linter.all false
/-- A pool of k numbers at P, of which xs are free. -/
structure St (N P I k : Nat) (v : Value) (xs : List Int) (w : World) : Prop where
  hp : Heap P (P + 1) v xs w
  c1 : w.cell? ⟨P, 1, none⟩ = some (.slice (some ⟨I, 0, none⟩) k k)
  row : ∀ j, j < k → w.cell? ⟨I, j, none⟩ = some (.bool (decide ((j : Int) ∈ xs)))
  frow : ∀ j, j < k → w.frozen? ⟨I, j, none⟩ = false
  hI : I < P
  hN : N ≤ I
  heap : Heaped xs xs.length
  nodup : xs.Nodup
  rng : ∀ x ∈ xs, 0 ≤ x ∧ x < k
/-- What a call did: only P, I and the heap's row have turned, and what is new. -/
structure Kept (P I : Nat) (v v' : Value) (w w' : World) : Prop where
  os : w'.os = w.os
  tape : w'.tape = w.tape
  output : w'.output = w.output
  size : w.heap.size ≤ w'.heap.size
  block : ∀ b, b < w.heap.size → b ≠ P → b ≠ I → some b ≠ v.ownBlock → w'.heap[b]? = w.heap[b]?
  row : ∀ b, b < w.heap.size → some b = v'.ownBlock → some b = v.ownBlock
theorem Kept.refl (P I : Nat) (v : Value) (w : World) : Kept P I v v w w := ⟨rfl, rfl, rfl, Nat.le_refl _, fun _ _ _ _ _ => rfl, fun _ _ h => h⟩
theorem Kept.below {N P I k : Nat} {v v' : Value} {xs : List Int} {W w w' : World} (hs : St N P I k v xs w) (h : Kept P I v v' w w') (hb : Below N W w) : Below N W w' := by
  refine ⟨h.os.trans hb.os, h.tape.trans hb.tape, h.output.trans hb.output, Nat.le_trans hb.size h.size, fun b hbn => ?_⟩
  have hI := hs.hI
  have hN := hs.hN
  have lP := World.block_lt_of_cell? w _ hs.hp.cell
  have lP' : P < w.heap.size := lP
  refine (h.block b (by omega) (by omega) (by omega) ?_).trans (hb.block b hbn)
  intro e
  have := (hs.hp.own.lt b e.symm).1
  omega
section
variable {N P I k : Nat} {v : Value} {xs : List Int} {w : World}
set_option maxRecDepth 100000 in
set_option maxHeartbeats 400000 in
theorem st_new (k : Nat) (w : World) (hk : k ≤ 65535) : Calls Try.prog 47 #[.int .i64 k] w fun e w' => ∃ P, e = .returned (.tuple #[.pointer (some ⟨P, 0, none⟩), .int .i64 0]) ∧ St w.heap.size P w.heap.size k (.slice none 0 0) [] w' ∧ Below w.heap.size w w' :=
  (new_any k w hk).mono fun e w' ⟨P, he, hf⟩ => ⟨P, he, ⟨⟨hf.c0, hf.f0, World.ownsRow_nil _ _ _ _⟩, hf.c1, fun j hj => by simpa using hf.row j hj, hf.frow, hf.hP, Nat.le_refl _, fun i a b => absurd b (by simp), List.nodup_nil, by simp⟩, hf.bel⟩
set_option maxRecDepth 100000 in
set_option maxHeartbeats 400000 in
theorem st_put_out (h : St N P I k v xs w) (n : Int) (hn : n < 0 ∨ (k : Int) ≤ n) : Calls Try.prog 48 #[.pointer (some ⟨P, 0, none⟩), .int .i64 n] w fun e w' => e = .returned (.bool false) ∧ w' = w := by
  have h1 := h.c1
  clear h
  go_enter Try.func48, Try.ntmps48
  have H : Hid (n < 0 ∨ (k : Int) ≤ n) := hn
  clear hn
  go_wp2
  all_goals first
    | (exfalso; have := H.out; omega)
    | (go_ret; exact ⟨rfl, rfl⟩)
set_option maxRecDepth 100000 in
set_option maxHeartbeats 400000 in
theorem st_len (h : St N P I k v xs w) : Calls Try.prog 50 #[.pointer (some ⟨P, 0, none⟩)] w fun e w' => e = .returned (.int .i64 xs.length) ∧ w' = w := by
  obtain ⟨A, c, rfl⟩ := own_slice h.hp.own
  have h1 := h.hp.cell
  generalize hL : xs.length = L at *
  clear h hL
  go_enter Try.func50, Try.ntmps50
  go_wp2
  go_ret
  exact ⟨rfl, rfl⟩
set_option maxRecDepth 100000 in
set_option maxHeartbeats 400000 in
theorem st_put_no (h : St N P I k v xs w) (j : Nat) (hj : j < k) (hm : (j : Int) ∈ xs) : Calls Try.prog 48 #[.pointer (some ⟨P, 0, none⟩), .int .i64 j] w fun e w' => e = .returned (.bool false) ∧ w' = w := by
  have h1 := h.c1
  have h2 := h.row j hj
  rw [decide_eq_true hm] at h2
  have hj1 : (j : Int) < k := by omega
  have hj0 : (0 : Int) ≤ j := by omega
  clear h hm
  go_enter Try.func48, Try.ntmps48
  go_wp2
  go_ret
  exact ⟨rfl, rfl⟩
theorem Heap.far {B : Nat} (h : Heap P B v xs w) (hPB : P < B) {w' : World} (hsz : w.heap.size ≤ w'.heap.size) (hb : ∀ b, b ≠ I → w'.heap[b]? = w.heap[b]?) (hI : I < P) : Heap P B v xs w' := by
  refine ⟨(World.cell?_of_block (hb P (by omega))).trans h.cell, (World.frozen?_of_block (hb P (by omega))).trans h.free, ?_⟩
  refine ⟨h.own.1, ?_⟩
  rcases h.own.2 with hn | ⟨g, cap, cur, hv, hgb, hgg, rest⟩
  · exact .inl hn
  · exact .inr ⟨g, cap, cur, hv, hgb, (hb g (by omega)).trans hgg, rest⟩
set_option maxRecDepth 100000 in
set_option maxHeartbeats 400000 in
theorem st_put_yes (h : St N P I k v xs w) (j : Nat) (hj : j < k) (hm : (j : Int) ∉ xs) (hlen : xs.length < 900000) :
    Calls Try.prog 48 #[.pointer (some ⟨P, 0, none⟩), .int .i64 j] w fun e w' => e = .returned (.bool true) ∧ ∃ v', St N P I k v' (pushF xs j) w' ∧ Kept P I v v' w w' := by
  have h1 := h.c1
  have h2 := h.row j hj
  have h3 := h.frow j hj
  rw [decide_eq_false hm] at h2
  have hj1 : (j : Int) < k := by omega
  have hj0 : (0 : Int) ≤ j := by omega
  have hI := h.hI
  have lP : P < w.heap.size := World.block_lt_of_cell? w _ h.hp.cell
  have lI : I < w.heap.size := World.block_lt_of_cell? w _ h2
  have hp1 : Heap P (P + 1) v xs (w.setCell ⟨I, j, none⟩ (.bool true)) := h.hp.far (I := I) (by omega) (by simp) (fun b hb => Below.heap_setCell w _ _ b hb) hI
  have hpu := hpush_own P (P + 1) v xs j _ hp1 hlen (by omega) (by simp; omega)
  have HS := Lib.hid h
  have HM := Lib.hid hm
  clear h hm
  go_enter Try.func48, Try.ntmps48
  go_wp2_with (first
    | (go_at_call 77; refine hpu.mono ?_; rintro e w1 ⟨rfl, v', hp2, ht, hrow⟩)
    | fail)
  go_ret
  have S := HS.out
  have M := HM.out
  have hperm := pushF_perm xs (j : Int)
  have hIr : some I ≠ v.ownBlock := by
    intro e; have := (S.hp.own.lt I e.symm).1; omega
  have hbI : w1.heap[I]? = (w.setCell ⟨I, j, none⟩ (.bool true)).heap[I]? := ht.block I (by simpa using lI) (by omega) hIr
  refine ⟨rfl, v', ⟨hp2, ?_, ?_, ?_, hI, S.hN, pushF_heaped _ _ S.heap, ?_, ?_⟩, ⟨ht.os, ht.tape, ht.output, by simpa using ht.size, fun b hb hbp hbi hbv => ?_, fun b hb hbv => ?_⟩⟩
  · have hPb : (w.setCell ⟨I, j, none⟩ (.bool true)).cell? ⟨P, 1, none⟩ = some (.slice (some ⟨I, 0, none⟩) k k) := by
      rw [World.cell?_setCell_far _ _ _ _ (by show I ≠ P; omega)]; exact S.c1
    exact (ht.other 1 (by omega)).trans hPb
  · intro m hmk
    rw [World.cell?_of_block (a := ⟨I, m, none⟩) hbI]
    have hiff : ((m : Int) ∈ pushF xs j) ↔ (m = j ∨ (m : Int) ∈ xs) := by
      rw [hperm.mem_iff, List.mem_cons]
      constructor
      · rintro (a | a); exact .inl (by omega); exact .inr a
      · rintro (a | a); exact .inl (by omega); exact .inr a
    by_cases e : m = j
    · subst e
      rw [World.cell?_setCell_same _ _ _ (S.row m hmk), decide_eq_true (hiff.2 (.inl rfl))]
    · rw [World.cell?_setCell_other _ _ _ _ (by simp [Ne.symm e]), S.row m hmk]
      congr 2
      simp [hiff, e]
  · intro m hmk
    rw [World.frozen?_of_block (a := ⟨I, m, none⟩) hbI, World.frozen?_setCell]; exact S.frow m hmk
  · rw [hperm.nodup_iff]; exact List.nodup_cons.2 ⟨M, S.nodup⟩
  · intro x hx
    rcases List.mem_cons.1 (hperm.mem_iff.1 hx) with rfl | hx
    · omega
    · exact S.rng x hx
  · exact (ht.block b (by simpa using hb) hbp hbv).trans (Below.heap_setCell w _ _ b hbi)
  · rcases hrow b hbv with h | h
    · exact h
    · simp at h; omega
theorem popF_mem (xs : List Int) (hn : xs ≠ []) (hd : xs.Nodup) (x : Int) : x ∈ popF xs ↔ x ∈ xs ∧ x ≠ xs.getD 0 0 := by
  have hp := popF_perm xs hn
  have h2 := List.nodup_cons.1 (hp.nodup_iff.1 hd)
  rw [hp.mem_iff, List.mem_cons]
  constructor
  · intro h; exact ⟨.inr h, fun e => h2.1 (e ▸ h)⟩
  · rintro ⟨a | a, b⟩
    · exact absurd a b
    · exact a
set_option maxRecDepth 100000 in
set_option maxHeartbeats 400000 in
theorem st_take_no (h : St N P I k v [] w) : Calls Try.prog 56 #[.pointer (some ⟨P, 0, none⟩)] w fun e w' => e = .returned (.tuple #[.int .i64 0, .bool false]) ∧ w' = w := by
  obtain ⟨A, c, rfl⟩ := own_slice h.hp.own
  have h1 := h.hp.cell
  simp only [List.length_nil] at h1
  clear h
  go_enter Try.func56, Try.ntmps56
  go_wp2
  go_ret2
  exact ⟨rfl, rfl⟩
set_option maxRecDepth 100000 in
set_option maxHeartbeats 400000 in
theorem st_take (h : St N P I k v xs w) (hn : xs ≠ []) (hlen : xs.length < 900000) (m : Nat) (hm : xs.getD 0 0 = m) :
    Calls Try.prog 56 #[.pointer (some ⟨P, 0, none⟩)] w fun e w' => e = .returned (.tuple #[.int .i64 m, .bool true]) ∧ ∃ v', St N P I k v' (popF xs) w' ∧ Kept P I v v' w w' := by
  have hp := List.length_pos_iff.2 hn
  have hmem : xs.getD 0 0 ∈ xs := by
    rw [List.getD_eq_getElem?_getD, List.getElem?_eq_getElem hp]; exact List.getElem_mem _
  have hr := h.rng _ hmem
  rw [hm] at hr
  have hI := h.hI
  have lP : P < w.heap.size := World.block_lt_of_cell? w _ h.hp.cell
  have hmk : m < k := by omega
  have lI : I < w.heap.size := World.block_lt_of_cell? w _ (h.row m hmk)
  have hpo := hpop_own P (P + 1) v xs w h.hp hn hlen (by omega) (by omega)
  obtain ⟨A, c, hv⟩ := own_slice h.hp.own
  obtain ⟨g, c', hv', hgB, hgw⟩ := h.hp.own.form hp
  rw [hv] at hv'
  injection hv' with hA _ hc
  subst hA hc
  have h1 : w.cell? ⟨P, 0, none⟩ = some (.slice (some ⟨g, 0, none⟩) xs.length c) := by rw [← hv]; exact h.hp.cell
  have ho : w.ownsRow (P + 1) 3 1 (.slice (some ⟨g, 0, none⟩) xs.length c) xs.length (ints xs) := by rw [← hv]; exact h.hp.own
  have hc0 := (row_of_own ho).cell 0 hp
  rw [hm] at hc0
  have hL0 : (0 : Int) < (xs.length : Int) := by omega
  have hLn : ¬ ((xs.length : Int) = 0) := by omega
  have hm0 : (0 : Int) ≤ m := by omega
  have hm1 : (m : Int) < k := by omega
  have HS := Lib.hid h
  have HM := Lib.hid hm
  have HN := Lib.hid hn
  have HE := Lib.hid hmem
  have HV := Lib.hid hv
  clear h hm hn hmem ho hv
  generalize hL : xs.length = L at *
  have HL := Lib.hid hL
  clear hL
  go_enter Try.func56, Try.ntmps56
  go_wp2_with (first
    | (go_at_call 78
       refine hpo.mono ?_
       rintro e w1 ⟨⟨r, rfl⟩, v', hp2, ht, hrow⟩
       have hIr : some I ≠ v.ownBlock := by
         intro e; have := (HS.out.hp.own.lt I e.symm).1; omega
       have hbI : w1.heap[I]? = w.heap[I]? := ht.block I lI (by omega) hIr
       have c1 : w1.cell? ⟨P, 1, none⟩ = some (.slice (some ⟨I, 0, none⟩) k k) := (ht.other 1 (by omega)).trans HS.out.c1
       have cm : w1.cell? ⟨I, m, none⟩ = some (.bool (decide ((m : Int) ∈ xs))) := (World.cell?_of_block (a := ⟨I, m, none⟩) hbI).trans (HS.out.row m hmk)
       have fm : w1.frozen? ⟨I, m, none⟩ = false := (World.frozen?_of_block (a := ⟨I, m, none⟩) hbI).trans (HS.out.frow m hmk)
       have HB := Lib.hid hbI
       have HI := Lib.hid hIr
       clear hbI hIr)
    | fail)
  go_ret2
  have S := HS.out
  have hiff := popF_mem xs HN.out S.nodup
  rw [HM.out] at hiff
  have hperm := popF_perm xs HN.out
  have hpl : popF xs ≠ [] ∨ popF xs = [] := by by_cases h : popF xs = [] <;> simp [h]
  refine ⟨rfl, v', ⟨hp2.far (I := I) (by omega) (by simp) (fun b hb => Below.heap_setCell w1 _ _ b hb) hI, ?_, ?_, ?_, hI, S.hN, popF_heaped _ S.heap HN.out, ?_, ?_⟩, ⟨ht.os, ht.tape, ht.output, by simpa using ht.size, fun b hb hbp hbi hbv => ?_, fun b hb hbv => ?_⟩⟩
  · rw [World.cell?_setCell_far _ _ _ _ (by show I ≠ P; omega)]; exact c1
  · intro j hj
    by_cases e : j = m
    · subst e
      rw [World.cell?_setCell_same _ _ _ cm, decide_eq_false (fun h => ((hiff _).1 h).2 rfl)]
    · rw [World.cell?_setCell_other _ _ _ _ (by simp [Ne.symm e]), World.cell?_of_block (a := ⟨I, j, none⟩) HB.out, S.row j hj]
      congr 2
      have : ((j : Int) ∈ popF xs) ↔ ((j : Int) ∈ xs) := by
        rw [hiff]; exact ⟨fun h => h.1, fun h => ⟨h, by omega⟩⟩
      simp [this]
  · intro j hj
    rw [World.frozen?_setCell, World.frozen?_of_block (a := ⟨I, j, none⟩) HB.out]; exact S.frow j hj
  · exact (List.nodup_cons.1 (hperm.nodup_iff.1 S.nodup)).2
  · intro x hx; exact S.rng x ((hiff x).1 hx).1
  · exact (Below.heap_setCell w1 _ _ b hbi).trans (ht.block b hb hbp hbv)
  · rw [← hrow]; exact hbv
end
end Go.Proofs.Ytndmpdpmfieacaa
