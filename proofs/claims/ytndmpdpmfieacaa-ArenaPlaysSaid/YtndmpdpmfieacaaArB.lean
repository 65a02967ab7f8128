/-
  arena.New; conditions: at most 1024 slots.
-/
import Derived.Test.YtndmpdpmfieacaaArA
import Derived.Test.YtndmpdpmfieacaaAnyK
namespace Go.Proofs.Ytndmpdpmfieacaa
open Go.RowKit Go.WideShapes Go.ChangeShapes
set_option linter.all false
/-- So many slots are of a class below q. -/
def sumN (ns : Nat → Nat) : Nat → Nat
  | 0 => 0
  | c + 1 => sumN ns c + ns c
theorem sumN_mono (ns : Nat → Nat) {a b : Nat} (h : a ≤ b) : sumN ns a ≤ sumN ns b := by
  induction b with
  | zero => obtain rfl : a = 0 := by omega
            exact Nat.le_refl _
  | succ b ih =>
    by_cases e : a = b + 1
    · subst e; exact Nat.le_refl _
    · exact Nat.le_trans (ih (by omega)) (by simp [sumN])
/-- The slots and the pools of a new arena: all of the classes below q, and j of q. -/
structure Fr (ns : Nat → Nat) (q j : Nat) (sl : List Sl) (xs : Nat → List Int) : Prop where
  len : sl.length = sumN ns q + j
  all : ∀ i, i < sl.length → (sl.getD i dS).gen = 1 ∧ (sl.getD i dS).live = false
  place : ∀ i, i < sl.length → (sl.getD i dS).cls ≤ q ∧ sumN ns (sl.getD i dS).cls ≤ i ∧ i < sumN ns ((sl.getD i dS).cls + 1)
  mem : ∀ c x, x ∈ xs c ↔ ∃ i, i < sl.length ∧ x = (i : Int) ∧ (sl.getD i dS).cls = c
  cnt : ∀ c, (xs c).length = if c < q then ns c else if c = q then j else 0
theorem Fr.nil (ns : Nat → Nat) : Fr ns 0 0 [] (fun _ => []) := ⟨rfl, fun i hi => absurd hi (by simp), fun i hi => absurd hi (by simp), fun c x => by simp, fun c => by simp⟩
theorem Fr.next {ns : Nat → Nat} {q : Nat} {sl : List Sl} {xs : Nat → List Int} (h : Fr ns q (ns q) sl xs) : Fr ns (q + 1) 0 sl xs :=
  ⟨h.len, h.all, fun i hi => by have := h.place i hi; exact ⟨by omega, this.2⟩, h.mem, fun c => by
    rw [h.cnt c]
    by_cases e : c = q
    · subst e; simp
    · by_cases e2 : c < q
      · rw [if_pos e2, if_pos (by omega)]
      · rw [if_neg e2, if_neg e, if_neg (by omega)]; split <;> rfl⟩
theorem Fr.fresh {ns : Nat → Nat} {q : Nat} {sl : List Sl} {xs : Nat → List Int} (h : Fr ns q 0 sl xs) : Fr ns q 0 sl (up xs q []) := by
  have hq : xs q = [] := List.eq_nil_of_length_eq_zero (by rw [h.cnt q]; simp)
  have : up xs q [] = xs := by
    funext c
    by_cases e : c = q
    · subst e; rw [up_same, hq]
    · rw [up_other _ _ e]
  rw [this]; exact h
theorem Fr.push {ns : Nat → Nat} {q j b : Nat} {sl : List Sl} {xs : Nat → List Int} (h : Fr ns q j sl xs) (hj : j < ns q) : Fr ns q (j + 1) (sl ++ [newSl q b]) (up xs q (pushF (xs q) (sl.length : Nat))) := by
  have gl : ∀ i, i < sl.length → (sl ++ [newSl q b]).getD i dS = sl.getD i dS := fun i hi => by rw [sl_snoc, if_pos hi]
  have gn : (sl ++ [newSl q b]).getD sl.length dS = newSl q b := by rw [sl_snoc, if_neg (Nat.lt_irrefl _), if_pos rfl]
  have hl := h.len
  refine ⟨by rw [List.length_append, h.len]; rfl, fun i hi => ?_, fun i hi => ?_, fun c x => ?_, fun c => ?_⟩
  · rw [List.length_append, List.length_singleton] at hi
    by_cases e : i < sl.length
    · rw [gl i e]; exact h.all i e
    · obtain rfl : i = sl.length := by omega
      rw [gn]; exact ⟨rfl, rfl⟩
  · rw [List.length_append, List.length_singleton] at hi
    by_cases e : i < sl.length
    · rw [gl i e]; exact h.place i e
    · obtain rfl : i = sl.length := by omega
      rw [gn]
      refine ⟨Nat.le_refl _, ?_, ?_⟩
      · show sumN ns q ≤ _; omega
      · show _ < sumN ns q + ns q; omega
  · have key : ∀ d, (∃ i, i < (sl ++ [newSl q b]).length ∧ x = (i : Int) ∧ ((sl ++ [newSl q b]).getD i dS).cls = d) ↔ (∃ i, i < sl.length ∧ x = (i : Int) ∧ (sl.getD i dS).cls = d) ∨ (x = (sl.length : Int) ∧ q = d) := by
      intro d
      rw [List.length_append, List.length_singleton]
      constructor
      · rintro ⟨i, hi, e, hc⟩
        by_cases e2 : i < sl.length
        · rw [gl i e2] at hc; exact .inl ⟨i, e2, e, hc⟩
        · obtain rfl : i = sl.length := by omega
          rw [gn] at hc; exact .inr ⟨e, hc⟩
      · rintro (⟨i, hi, e, hc⟩ | ⟨e, hc⟩)
        · exact ⟨i, by omega, e, by rw [gl i hi]; exact hc⟩
        · exact ⟨sl.length, by omega, e, by rw [gn]; exact hc⟩
    rw [key]
    by_cases e : c = q
    · subst e
      rw [up_same, (pushF_perm _ _).mem_iff, List.mem_cons, h.mem]
      constructor
      · rintro (h1 | h1)
        · exact .inr ⟨h1, rfl⟩
        · exact .inl h1
      · rintro (h1 | ⟨h1, _⟩)
        · exact .inr h1
        · exact .inl h1
    · rw [up_other _ _ e, h.mem]
      constructor
      · exact .inl
      · rintro (h1 | ⟨_, h1⟩)
        · exact h1
        · exact absurd h1.symm e
  · by_cases e : c = q
    · subst e
      rw [up_same, pushF_len, h.cnt c]; simp
    · rw [up_other _ _ e, h.cnt c]
      by_cases e2 : c < q
      · rw [if_pos e2, if_pos e2]
      · rw [if_neg e2, if_neg e2, if_neg e, if_neg e]
theorem Fr.not_mem {ns : Nat → Nat} {q j : Nat} {sl : List Sl} {xs : Nat → List Int} (h : Fr ns q j sl xs) (c : Nat) : ((sl.length : Nat) : Int) ∉ xs c := by
  rw [h.mem]
  rintro ⟨i, hi, e, _⟩
  omega
theorem run_index5i (c : Nat) (cs : Array Value) (hc : c < 5) (v : Value) (hv : cs[c]? = some v) (w : World) : (Instr.index 22 (.agg cs) (.int .i64 (c : Nat))).run Try.prog w = .ok v w := by
  have h1 : (0 : Int) ≤ c := by omega
  have h2 : (c : Int) < 5 := by omega
  unfold Instr.index
  simp [asIntOf, run_underlying Try.underlying22, Try.sizeOf3, part, Try.isAgg3, hv, h1, h2]
  intro h; omega
/-- A configuration's numbers. -/
def nsV (ns : Nat → Nat) : Value := .agg #[.int .i64 (ns 0 : Nat), .int .i64 (ns 1 : Nat), .int .i64 (ns 2 : Nat), .int .i64 (ns 3 : Nat), .int .i64 (ns 4 : Nat)]
theorem ns_at (ns : Nat → Nat) {c : Nat} (hc : c < 5) : (#[.int .i64 (ns 0 : Nat), .int .i64 (ns 1 : Nat), .int .i64 (ns 2 : Nat), .int .i64 (ns 3 : Nat), .int .i64 (ns 4 : Nat)] : Array Value)[c]? = some (.int .i64 (ns c : Nat)) := by
  have : c = 0 ∨ c = 1 ∨ c = 2 ∨ c = 3 ∨ c = 4 := by omega
  rcases this with rfl | rfl | rfl | rfl | rfl <;> rfl
theorem info114 : (Try.prog.info? 114).map (fun i => (i.zero, i.size, i.bytes)) = some (some (.agg #[.int .i64 0, .int .i64 0, .bool false, .slice none 0 0]), 4, 48) := by kernel_rfl
/-- The arena on its way: q pools are there; all slots of the classes below c, and j of c. -/
def NewI (ns : Nat → Nat) (w : World) (B S K q c j : Nat) (P I : Nat → Nat) (m : Nat) (W : World) : Prop :=
  ∃ sl V xs, Ar w.heap.size B S K q sl P I V xs W ∧ Room W S K ∧ Below w.heap.size w W ∧ Fr ns c j sl xs ∧ m = sl.length
theorem NewI.first {ns : Nat → Nat} {w W : World} {B S K : Nat} {cs : Array Value} (hB : W.heap[B]? = some (.cells #[.slice (some ⟨S, 0, none⟩) 0 K, .pointer none, .pointer none, .pointer none, .pointer none, .pointer none] 110 (0, 0))) (hS : W.heap[S]? = some (.cells cs 114 (0, 0))) (hc : cs.size = K * 4) (hb : Below w.heap.size w W) (h1 : w.heap.size ≤ S) (h2 : S < B) :
    NewI ns w B S K 0 0 0 (fun _ => 0) (fun _ => 0) 0 W :=
  ⟨[], fun _ => .slice none 0 0, fun _ => [], ⟨hB, h1, h2, ⟨⟨cs, hS⟩, fun i hi => absurd hi (by simp), fun i hi => absurd hi (by simp), fun i hi => absurd hi (by simp), fun i hi => absurd hi (by simp)⟩, fun i hi => absurd hi (by simp), fun c hc => absurd hc (by omega), ⟨fun i j hi => absurd hi (by simp), fun i c hi => absurd hi (by simp), fun c d hc => absurd hc (by omega)⟩⟩, ⟨cs, hS, hc⟩, hb, Fr.nil ns, rfl⟩
theorem NewI.cell {ns : Nat → Nat} {w W : World} {B S K q c j m : Nat} {P I : Nat → Nat} (h : NewI ns w B S K q c j P I m W) : W.cell? ⟨B, 0, none⟩ = some (.slice (some ⟨S, 0, none⟩) m K) ∧ (∀ o, W.frozen? ⟨B, o, none⟩ = false) ∧ (∀ d, d < 5 → W.cell? ⟨B, 1 + d, none⟩ = some (pv q P d)) := by
  obtain ⟨sl, V, xs, ha, hr, hb, hf, hm⟩ := h
  refine ⟨by rw [cell_of ha.box, hm]; rfl, fun o => frozen_of ha.box o, fun d hd => ?_⟩
  rw [cell_of ha.box]
  have : d = 0 ∨ d = 1 ∨ d = 2 ∨ d = 3 ∨ d = 4 := by omega
  rcases this with rfl | rfl | rfl | rfl | rfl <;> rfl
theorem NewI.pool {ns : Nat → Nat} {w W W' : World} {B S K c m p ii : Nat} {P I : Nat → Nat} (h : NewI ns w B S K c c 0 P I m W) (hc : c < 5) (hs : St W.heap.size p ii K (.slice none 0 0) [] W') (hb : Below W.heap.size W W') :
    NewI ns w B S K (c + 1) c 0 (up P c p) (up I c ii) m (W'.setCell ⟨B, 1 + c, none⟩ (.pointer (some ⟨p, 0, none⟩))) := by
  obtain ⟨sl, V, xs, ha, hr, hb0, hf, hm⟩ := h
  have hSB := ha.SB
  have hN := ha.NS
  refine ⟨sl, _, _, ha.addPool hc hs hb, (hr.same (hb.block S ha.row.lt)).same (heap_far _ _ _ (by show S ≠ B; omega)), (hb0.trans (hb.mono hb0.size)).setCell (p := ⟨B, 1 + c, none⟩) (by show _ ≤ B; omega) _, hf.fresh, hm⟩
theorem NewI.len {ns : Nat → Nat} {w W : World} {B S K q c j m : Nat} {P I : Nat → Nat} (h : NewI ns w B S K q c j P I m W) : m = sumN ns c + j := by
  obtain ⟨sl, V, xs, ha, hr, hb, hf, hm⟩ := h
  rw [hm]; exact hf.len
theorem NewI.bel {ns : Nat → Nat} {w W : World} {B S K q c j m : Nat} {P I : Nat → Nat} (h : NewI ns w B S K q c j P I m W) : Below w.heap.size w W := by
  obtain ⟨sl, V, xs, ha, hr, hb, hf, hm⟩ := h
  exact hb
theorem NewI.next {ns : Nat → Nat} {w W : World} {B S K c m : Nat} {P I : Nat → Nat} (h : NewI ns w B S K (c + 1) c (ns c) P I m W) : NewI ns w B S K (c + 1) (c + 1) 0 P I m W := by
  obtain ⟨sl, V, xs, ha, hr, hb, hf, hm⟩ := h
  exact ⟨sl, V, xs, ha, hr, hb, hf.next, hm⟩
/-- The next number is put, the slot isn't there yet. -/
def NewP (ns : Nat → Nat) (w : World) (B S K c j : Nat) (P I : Nat → Nat) (m : Nat) (W : World) : Prop :=
  ∃ sl V xs, Ar w.heap.size B S K (c + 1) sl P I V (up xs c (pushF (xs c) (sl.length : Nat))) W ∧ Room W S K ∧ Below w.heap.size w W ∧ Fr ns c j sl xs ∧ m = sl.length
theorem NewI.put {ns : Nat → Nat} {w W : World} {B S K c j m : Nat} {P I : Nat → Nat} (h : NewI ns w B S K (c + 1) c j P I m W) (hm : m < K) (hK : K ≤ 1024) (hc : c < 5) (hj : j ≤ 1024) :
    Calls Try.prog 48 #[.pointer (some ⟨P c, 0, none⟩), .int .i64 (m : Nat)] W fun e w' => e = .returned (.bool true) ∧ NewP ns w B S K c j P I m w' := by
  obtain ⟨sl, V, xs, ha, hr, hb, hf, hml⟩ := h
  have hlc : (xs c).length ≤ 1024 := by rw [hf.cnt c, if_neg (Nat.lt_irrefl _), if_pos rfl]; exact hj
  subst hml
  refine (st_put_yes (ha.pl c (by omega)) sl.length hm (hf.not_mem c) (by omega)).mono ?_
  rintro e w' ⟨rfl, v', hst, hkp⟩
  have hSB := ha.SB
  have hI := ha.Ige (c := c) (by omega)
  have hS : w'.heap[S]? = W.heap[S]? := hkp.block S ha.row.lt (by omega) (by omega) (fun e => by have := ((ha.pl c (by omega)).ltv S e.symm).1; omega)
  exact ⟨rfl, sl, _, xs, ha.pool (by omega) hst hkp, hr.same hS, ⟨hkp.os.trans hb.os, hkp.tape.trans hb.tape, hkp.output.trans hb.output, Nat.le_trans hb.size hkp.size, fun b hbn => by
    have hN := ha.NS
    refine (hkp.block b (by have := hb.size; omega) (by omega) (by omega) (fun e => ?_)).trans (hb.block b hbn)
    have := ((ha.pl c (by omega)).ltv b e.symm).1
    omega⟩, hf, rfl⟩
theorem NewP.cell {ns : Nat → Nat} {w W : World} {B S K c j m : Nat} {P I : Nat → Nat} (h : NewP ns w B S K c j P I m W) : W.cell? ⟨B, 0, none⟩ = some (.slice (some ⟨S, 0, none⟩) m K) ∧ (∀ o, W.frozen? ⟨B, o, none⟩ = false) ∧ Room W S K ∧ S < B ∧ B < W.heap.size := by
  obtain ⟨sl, V, xs, ha, hr, hb, hf, hm⟩ := h
  exact ⟨by rw [cell_of ha.box, hm]; rfl, fun o => frozen_of ha.box o, hr, ha.SB, ha.ltB⟩
theorem NewP.slot {ns : Nat → Nat} {w W W' : World} {B S K c j m b : Nat} {P I : Nat → Nat} (h : NewP ns w B S K c j P I m W) (hm : m < K) (hc : c < 5) (hj : j < ns c) (hb : Below W.heap.size W W') (hw : W'.heap[b]? = some (.cells (List.replicate (szN c) (Value.int .u64 poisonV)).toArray 35 (0, 0))) (hbn : W.heap.size ≤ b) :
    NewI ns w B S K (c + 1) c (j + 1) P I (m + 1) ((W'.setCells S (m * 4) (slV c b)).setCell ⟨B, 0, none⟩ (.slice (some ⟨S, 0, none⟩) (m + 1) K)) := by
  obtain ⟨sl, V, xs, ha, hr, hb0, hf, hml⟩ := h
  subst hml
  have hSB := ha.SB
  have hN := ha.NS
  obtain ⟨h1, h2⟩ := ha.addSlot hr hm hc hb hw hbn
  have hb2 := hb0.trans (hb.mono hb0.size)
  have hb3 : Below w.heap.size w (W'.setCells S (sl.length * 4) (slV c b)) :=
    ⟨(World.os_setCells ..).trans hb2.os, (setCells_rest ..).1.trans hb2.tape, (World.output_setCells ..).trans hb2.output, by rw [(setCells_rest ..).2]; exact hb2.size, fun x hx => (setCells_far _ _ _ _ _ (by omega)).trans (hb2.block x hx)⟩
  have hb4 := hb3.setCell (p := ⟨B, 0, none⟩) (by show _ ≤ B; omega) (.slice (some ⟨S, 0, none⟩) (sl.length + 1) K)
  have hl2 : sl.length + 1 = (sl ++ [newSl c b]).length := by rw [List.length_append]; rfl
  have hp2 := hf.push (b := b) hj
  generalize (W'.setCells S (sl.length * 4) (slV c b)).setCell ⟨B, 0, none⟩ (.slice (some ⟨S, 0, none⟩) (sl.length + 1) K) = Z at *
  exact ⟨sl ++ [newSl c b], V, _, h1, h2, hb4, hp2, hl2⟩
/-- One cell. -/
def One (p : Addr) (u : Value) (W : World) : Prop := W.cell? p = some u
theorem below_alloc (w : World) (o : Obj) : Below w.heap.size w (w.alloc o) := (Below.refl _ _).alloc (Nat.le_refl _) o
/-- An append where there is room. -/
theorem step_append_room {P : Program} {w : World} {ops : Array Oper} {o : Oper} {a : Act} {K : Act → World → Prop} {Q : Exit → Act → World → Prop} {E : Prop} (hgd : o.guard = none) (s x : Operand) (t : TypeId)
    (ho : o.op = .call { callee := .builtin .append, args := #[s, x], argTypes := #[t, t] }) (e : TypeId) (i : TypeInfo) (ht : P.underlying t = some (.slice e)) (hi : P.info? e = some i)
    (g off n cap m c : Nat) (ad : Addr) (news : List Value) (hs : a.eval s = .slice (some ⟨g, off, none⟩) n cap) (hx : a.eval x = .slice (some ad) m c) (hl : news.length = m * i.size) (hnews : ∀ j u, news[j]? = some u → w.cell? (ad.add j) = some u) (h1 : ∀ u ∈ news, u.oneCell' = true)
    (hr : n + m ≤ cap) (hcell : ∀ j, j < news.length → (w.cell? ⟨g, off + n * i.size + j, none⟩).isSome = true) (hfr : ∀ j, j < news.length → w.frozen? ⟨g, off + n * i.size + j, none⟩ = false)
    (hK : K (a.put o.dst (.slice (some ⟨g, off, none⟩) (n + m) cap)) (w.setCells g (off + n * i.size) news)) :
    if Region.wanted o (yielded ops a.tmps) = true then Oper.wp P o a w K Q else E := by
  have hw : Region.wanted o (yielded ops a.tmps) = true := by simp [Region.wanted, hgd]
  rw [if_pos hw]
  have hrun := run_append_room_cells (P := P) w t o.type e i ht hi g off n cap ad m c news hl hnews h1 hr hcell hfr
  unfold Oper.wp execOp
  simp only [ho, resolve, invoke, builtin, Sem.run_bind, Sem.run_pure, Result.andThen_ok, List.map_toArray, List.map_cons, List.map_nil, hs, hx, hrun]
  exact hK
set_option maxRecDepth 100000 in
set_option maxHeartbeats 3200000 in
theorem arena_new (ns : Nat → Nat) (hk : sumN ns 5 ≤ 1024) (w : World) : Calls Try.prog 13 #[nsV ns] w fun e w' => ∃ B S sl P I V xs, e = .returned (.tuple #[.pointer (some ⟨B, 0, none⟩), .int .i64 0]) ∧ Ar w.heap.size B S (sumN ns 5) 5 sl P I V xs w' ∧ Below w.heap.size w w' ∧ Fr ns 5 0 sl xs := by
  have hm : ∀ c, c < 5 → sumN ns (c + 1) ≤ sumN ns 5 := fun c hc => sumN_mono ns (by omega)
  have hix : ∀ c, c < 5 → ∀ W, (Instr.index 22 (nsV ns) (.int .i64 (c : Nat))).run Try.prog W = .ok (.int .i64 (ns c : Nat)) W := fun c hc W => run_index5i c _ hc _ (ns_at ns hc) W
  have HI := Lib.hid hix
  have HM := Lib.hid hm
  clear hix hm
  obtain ⟨K, hK⟩ : ∃ K, K = sumN ns 5 := ⟨_, rfl⟩
  rw [← hK] at hk ⊢
  have HK := Lib.hid hK
  obtain ⟨i1, hi1, hz1, hz2, hz3⟩ := info_parts info114
  have hmk : ∀ W, (Instr.makeSlice 106 (.int .i64 0) (.int .i64 (K : Nat))).run Try.prog W = .ok (.slice (some ⟨W.heap.size, 0, none⟩) 0 K) (W.alloc (.cells (madeCells #[.int .i64 0, .int .i64 0, .bool false, .slice none 0 0] (K * 4)) 114)) := fun W => by
    have := run_make (P := Try.prog) W 106 114 i1 _ Try.underlying106 hi1 hz1 .i64 .i64 0 (K : Nat) (Int.le_refl _) (by omega) (by rw [hz3]; omega) (by omega)
    rw [hz2] at this
    exact this
  clear hi1 hz1 hz2 hz3 hK
  obtain ⟨vs, hvs⟩ : ∃ vs : Value, vs = nsV ns := ⟨_, rfl⟩
  have HV := Lib.hid hvs
  unfold nsV at hvs
  rw [show nsV ns = .agg #[.int .i64 (ns 0 : Nat), .int .i64 (ns 1 : Nat), .int .i64 (ns 2 : Nat), .int .i64 (ns 3 : Nat), .int .i64 (ns 4 : Nat)] from rfl]
  clear hvs
  go_enter Try.func13, Try.ntmps13
  go_wp2
  obtain ⟨Wa, hWa⟩ : ∃ Wa : World, Wa = w.alloc (.cells #[.int .i64 (ns 0 : Nat), .int .i64 (ns 1 : Nat), .int .i64 (ns 2 : Nat), .int .i64 (ns 3 : Nat), .int .i64 (ns 4 : Nat)] 22) := ⟨_, rfl⟩
  have hba : Wa.heap[w.heap.size]? = some (.cells #[.int .i64 (ns 0 : Nat), .int .i64 (ns 1 : Nat), .int .i64 (ns 2 : Nat), .int .i64 (ns 3 : Nat), .int .i64 (ns 4 : Nat)] 22 (0, 0)) := by rw [hWa]; exact heap_alloc_new w _
  have HBA : Hid (Below w.heap.size w Wa) := Lib.hid (by rw [hWa]; exact (Below.refl _ _).alloc (Nat.le_refl _) _)
  have HSA : Hid (Wa.heap.size = w.heap.size + 1) := Lib.hid (by rw [hWa]; simp)
  obtain ⟨g, hg⟩ : ∃ g, g = w.heap.size := ⟨_, rfl⟩
  have HG := Lib.hid hg
  rw [← hWa]
  rw [← hg] at hba ⊢
  clear hWa hg
  have HCA := Lib.hid hba
  clear hba
  go_loopw [4, 13] (fun tot i W => ∃ c : Nat, i = .int .i64 c ∧ c ≤ 5 ∧ tot = .int .i64 (sumN ns c : Nat) ∧ W = Wa) (fun _ i _ => 5 - (intOf i).toNat)
  case atStart => exact ⟨0, rfl, Nat.zero_le _, rfl, rfl⟩
  case round =>
    obtain ⟨c, rfl, hc, rfl, rfl⟩ := hrel
    have c0 : (0 : Int) ≤ c := by omega
    by_cases h5 : c < 5
    · have c5 : (c : Int) < 5 := by omega
      have hi := HI.out c h5
      rw [show nsV ns = .agg #[.int .i64 (ns 0 : Nat), .int .i64 (ns 1 : Nat), .int .i64 (ns 2 : Nat), .int .i64 (ns 3 : Nat), .int .i64 (ns 4 : Nat)] from rfl] at hi
      have hs : sumN ns (c + 1) = sumN ns c + ns c := rfl
      have hsm := HM.out c h5
      rw [hs, ← HK.out] at hsm
      have HS := Lib.hid hs
      clear hs
      generalize hx : sumN ns c = x at *
      have HX := Lib.hid hx
      clear hx
      generalize ns c = y at *
      have hy : (y : Int) ≤ 1024 := by omega
      have hy0 : (0 : Int) ≤ y := by omega
      go_wp2
      go_roundw
      case rel => exact ⟨c + 1, by go_num, by omega, by rw [HS.out]; go_num, by trivial⟩
      case measure => simp only [intOf]; omega
    · obtain rfl : c = 5 := by omega
      rw [← HK.out]
      have hk1 : ¬ ((1024 : Int) < K) := by omega
      have hk0 : (0 : Int) ≤ K := by omega
      go_upto_region 12 with (fail)
      obtain ⟨S, hS⟩ : ∃ S, S = wr.heap.size := ⟨_, rfl⟩
      obtain ⟨Wb, hWb⟩ : ∃ Wb : World, Wb = wr.alloc (.cells (madeCells #[.int .i64 0, .int .i64 0, .bool false, .slice none 0 0] (K * 4)) 114) := ⟨_, rfl⟩
      obtain ⟨Wc, hWc⟩ : ∃ Wc : World, Wc = Wb.alloc (.cells #[.slice (some ⟨S, 0, none⟩) 0 K, .pointer none, .pointer none, .pointer none, .pointer none, .pointer none] 110) := ⟨_, rfl⟩
      have sb : Wb.heap.size = S + 1 := by rw [hWb, hS]; simp
      have bb : Below wr.heap.size wr Wb := by rw [hWb]; exact (Below.refl _ _).alloc (Nat.le_refl _) _
      have bc : Below Wb.heap.size Wb Wc := by rw [hWc]; exact (Below.refl _ _).alloc (Nat.le_refl _) _
      have hb1 : Wb.heap[S]? = some (.cells (madeCells #[.int .i64 0, .int .i64 0, .bool false, .slice none 0 0] (K * 4)) 114 (0, 0)) := by rw [hWb, hS]; exact heap_alloc_new wr _
      have hc1 : Wc.heap[S + 1]? = some (.cells #[.slice (some ⟨S, 0, none⟩) 0 K, .pointer none, .pointer none, .pointer none, .pointer none, .pointer none] 110 (0, 0)) := by rw [hWc, ← sb]; exact heap_alloc_new Wb _
      have hI0 : Hid (∃ P I m, NewI ns w (S + 1) S K 0 0 0 P I m Wc) := Lib.hid ⟨_, _, _, NewI.first hc1 ((bc.block S (by omega)).trans hb1) (size_madeCells _ _) (HBA.out.trans ((bb.trans (bc.mono (by omega))).mono (by have := HSA.out; omega))) (by have := HSA.out; omega) (by omega)⟩
      have HBX : Hid (Wc.heap[g]? = wr.heap[g]?) := Lib.hid ((bc.block g (by have := HSA.out; have := HG.out; omega)).trans (bb.block g (by have := HSA.out; have := HG.out; omega)))
      have HSS := Lib.hid hS
      have hx1 := (HBX.out).trans HCA.out
      rw [← hS, ← hWb, ← hWc]
      clear hWb hWc sb bb bc hb1 hc1 hmk hS
      have d0 := cell_of hx1 0
      have d1 := cell_of hx1 1
      have d2 := cell_of hx1 2
      have d3 := cell_of hx1 3
      have d4 := cell_of hx1 4
      simp only [List.getElem?_toArray, List.getElem?_cons_zero, List.getElem?_cons_succ] at d0 d1 d2 d3 d4
      clear hx1
      go_wp2
      clear d0 d1 d2 d3 d4
      go_loopw [33] (fun i W => ∃ c : Nat, i = .int .i64 c ∧ c ≤ 5 ∧ Hid (∃ P I m, NewI ns w (S + 1) S K c c 0 P I m W)) (fun i _ => 5 - (intOf i).toNat)
      case atStart => exact ⟨0, rfl, Nat.zero_le _, hI0⟩
      case round =>
        clear hI0
        obtain ⟨c, rfl, hc, HNI⟩ := hrel
        obtain ⟨P, I, m, hni⟩ := HNI.out
        have HNI := Lib.hid hni
        clear hni
        have c0 : (0 : Int) ≤ c := by omega
        by_cases h5 : c < 5
        · have c5 : (c : Int) < 5 := by omega
          have hi := HI.out c h5
          rw [show nsV ns = .agg #[.int .i64 (ns 0 : Nat), .int .i64 (ns 1 : Nat), .int .i64 (ns 2 : Nat), .int .i64 (ns 3 : Nat), .int .i64 (ns 4 : Nat)] from rfl] at hi
          have hs : sumN ns (c + 1) = sumN ns c + ns c := rfl
          have hsm := HM.out c h5
          rw [hs, ← HK.out] at hsm
          have hy : (ns c : Int) ≤ 1024 := by omega
          have hy0 : (0 : Int) ≤ ns c := by omega
          clear hs
          go_upto_region 18 with (first
            | (go_at_call 47; refine (st_new K _ (by omega)).mono ?_; rintro e w1 ⟨p, rfl, hst, hb1⟩
               have HST := Lib.hid hst
               have HB1 := Lib.hid hb1
               clear hst hb1)
            | fail)
          obtain ⟨q0, q1, q2⟩ := HNI.out.cell
          have b1 : w1.cell? ⟨S + 1, 1 + c, none⟩ = some (.pointer none) := (HB1.out.cell (World.block_lt_of_cell? _ _ (q2 c h5))).trans (by rw [q2 c h5]; simp [pv])
          have b2 : w1.frozen? ⟨S + 1, 1 + c, none⟩ = false := (HB1.out.frozen (World.block_lt_of_cell? _ _ (q2 c h5))).trans (q1 _)
          have hn1 := HNI.out.pool h5 HST.out HB1.out
          have hp1 : up P c p c = p := up_same ..
          generalize up P c p = P1 at *
          generalize up I c wr.heap.size = I1 at *
          have HN1 := Lib.hid hn1
          have HP1 := Lib.hid hp1
          have hml := HNI.out.len
          have HML := Lib.hid hml
          obtain ⟨x, hx⟩ : ∃ x, x = sumN ns c := ⟨_, rfl⟩
          obtain ⟨y, hyy⟩ : ∃ y, y = ns c := ⟨_, rfl⟩
          have HX := Lib.hid hx
          have HY := Lib.hid hyy
          rw [← hx] at hsm hml
          rw [← hyy] at hsm hy hy0 hi ⊢
          have hm0 : m = x := by omega
          have HM0 := Lib.hid hm0
          clear hn1 hp1 q0 q1 q2 hml hx hyy hm0
          go_wp2
          clear b1 b2 hi
          go_loopw [52] (fun i W => ∃ j m : Nat, i = .int .i64 j ∧ j ≤ y ∧ Hid (m = x + j) ∧ Hid (NewI ns w (S + 1) S K (c + 1) c j P1 I1 m W)) (fun i _ => y - (intOf i).toNat)
          case atStart => exact ⟨0, m, rfl, Nat.zero_le _, HM0, HN1⟩
          case round =>
            clear HN1 HNI HML HM0
            obtain ⟨j, m, rfl, hj, HMJ, HNJ⟩ := hrel
            have j0 : (0 : Int) ≤ j := by omega
            by_cases hjy : j < y
            · have hmK : m < K := by have := HMJ.out; omega
              have hpu := HNJ.out.put hmK hk h5 (by omega)
              rw [HP1.out] at hpu
              obtain ⟨b0, b1, -⟩ := HNJ.out.cell
              have j1 : (j : Int) < y := by omega
              go_upto_region 22 with (first
                | (go_at_call 48; refine hpu.mono ?_; rintro e w2 ⟨rfl, hnp⟩
                   have HNP := Lib.hid hnp
                   clear hnp)
                | fail)
              clear hpu b0 b1
              obtain ⟨b0, bf, br, bS, bB⟩ := HNP.out.cell
              obtain ⟨Wd, hWd⟩ : ∃ Wd : World, Wd = w2.drew := ⟨_, rfl⟩
              have HBd : Hid (Below w2.heap.size w2 Wd) := Lib.hid (by rw [hWd]; exact below_drew w2)
              have hS2 : One ⟨S + 1, 0, none⟩ (.slice (some ⟨S, 0, none⟩) m K) Wd := by rw [hWd]; exact b0
              refine wp_region_K (One ⟨S + 1, 0, none⟩ (.slice (some ⟨S, 0, none⟩) m K)) 9 (by kernel_rfl) ?_
              rw [← hWd]
              clear hWd b0 bf
              refine wpAnyK_pure (i := 0) (oi := _) (v := ?_) (by rfl) (by kernel_rfl) (by intro _ _ _ h; exact h) (Or.inl ⟨by rfl, ?_⟩) ?_
              rotate_left 1
              · intro w' _
                go_simp
                all_goals with_reducible rfl
              simp only [Act.put, List.getElem_toArray, List.getElem_cons_zero, List.getElem_cons_succ, List.setIfInBounds_toArray, List.set_cons_zero, List.set_cons_succ]
              refine wpAnyK_pure (i := 1) (oi := _) (v := ?_) (by rfl) (by kernel_rfl) (by intro _ _ _ h; exact h) (Or.inl ⟨by rfl, ?_⟩) ?_
              rotate_left 1
              · intro w' _
                go_simp
                all_goals with_reducible rfl
              simp only [Act.put, List.getElem_toArray, List.getElem_cons_zero, List.getElem_cons_succ, List.setIfInBounds_toArray, List.set_cons_zero, List.set_cons_succ]
              refine wpAnyK_pure (i := 2) (oi := _) (v := ?_) (by rfl) (by kernel_rfl) (by intro _ _ _ h; exact h) (Or.inl ⟨by rfl, ?_⟩) ?_
              rotate_left 1
              · intro w' _
                go_simp
                all_goals with_reducible rfl
              simp only [Act.put, List.getElem_toArray, List.getElem_cons_zero, List.getElem_cons_succ, List.setIfInBounds_toArray, List.set_cons_zero, List.set_cons_succ]
              refine wpAnyK_pure (i := 3) (oi := _) (v := ?_) (by rfl) (by kernel_rfl) (by intro _ _ _ h; exact h) (Or.inl ⟨by rfl, ?_⟩) ?_
              rotate_left 1
              · intro w' _
                go_simp
                all_goals with_reducible rfl
              simp only [Act.put, List.getElem_toArray, List.getElem_cons_zero, List.getElem_cons_succ, List.setIfInBounds_toArray, List.set_cons_zero, List.set_cons_succ]
              refine wpAnyK_take (i := 4) (oi := _) (v := ?_) (by rfl) (by kernel_rfl) (by intro _ _ _ h; exact h) hS2 (Or.inl ⟨by rfl, ?_⟩) ?_
              rotate_left 1
              · intro w' hl
                have hl1 : w'.cell? ⟨S + 1, 0, none⟩ = _ := hl
                clear hl
                go_simp
                all_goals with_reducible rfl
              simp only [Act.put, List.getElem_toArray, List.getElem_cons_zero, List.getElem_cons_succ, List.setIfInBounds_toArray, List.set_cons_zero, List.set_cons_succ]
              refine wpAnyK_pure (i := 5) (oi := _) (v := ?_) (by rfl) (by kernel_rfl) (by intro _ _ _ h; exact h) (Or.inl ⟨by rfl, ?_⟩) ?_
              rotate_left 1
              · intro w' _
                go_simp
                all_goals with_reducible rfl
              simp only [Act.put, List.getElem_toArray, List.getElem_cons_zero, List.getElem_cons_succ, List.setIfInBounds_toArray, List.set_cons_zero, List.set_cons_succ]
              refine wpAnyK_all (rs := [6]) (by kernel_rfl) (by simp) ?_
              intro ix hix
              simp only [List.mem_cons, List.not_mem_nil, or_false] at hix
              subst hix
              refine wpK_op (o := _) (by rfl) (fun K9 hK9 => ?_)
              go_simp
              go_at_call 49
              refine (fresh_any c h5 Wd).mono ?_
              rintro e w3 ⟨b, rfl, hb3, hbn, hbl⟩
              have hS3 : One ⟨S + 1, 0, none⟩ (.slice (some ⟨S, 0, none⟩) m K) w3 := (hbl.cell (World.block_lt_of_cell? _ _ hS2)).trans hS2
              have HB3 := Lib.hid hb3
              have HBN := Lib.hid hbn
              have HBL := Lib.hid hbl
              clear hb3 hbn hbl
              refine hK9 _ _ (fun _ _ => hS3) ?_
              clear hK9 K9
              try simp only [Act.put, List.getElem_toArray, List.getElem_cons_zero, List.getElem_cons_succ, List.setIfInBounds_toArray, List.set_cons_zero, List.set_cons_succ]
              refine wpAnyK_all (rs := [7]) (by kernel_rfl) (by simp) ?_
              intro ix hix
              simp only [List.mem_cons, List.not_mem_nil, or_false] at hix
              subst hix
              refine wpK_op (o := _) (by rfl) (fun K9 hK9 => ?_)
              go_simp
              refine hK9 _ _ (fun _ _ => ((below_alloc w3 _).cell (World.block_lt_of_cell? _ _ hS3)).trans hS3) ?_
              clear hK9 K9
              try simp only [Act.put, List.getElem_toArray, List.getElem_cons_zero, List.getElem_cons_succ, List.setIfInBounds_toArray, List.set_cons_zero, List.set_cons_succ]
              obtain ⟨We, hWe⟩ : ∃ We : World, We = w3.alloc (Obj.cells #[.int .i64 (c : Nat), .int .i64 1, .bool false, .slice (some ⟨b, 0, none⟩) (szN c) (szN c)] 114) := ⟨_, rfl⟩
              have HLE : Hid (We.heap[w3.heap.size]? = some (.cells #[.int .i64 (c : Nat), .int .i64 1, .bool false, .slice (some ⟨b, 0, none⟩) (szN c) (szN c)] 114 (0, 0))) := Lib.hid (by rw [hWe]; exact heap_alloc_new w3 _)
              have HBE : Hid (Below w3.heap.size w3 We) := Lib.hid (by rw [hWe]; exact below_alloc w3 _)
              rw [← hWe]
              clear hWe
              have HB2E : Hid (Below w2.heap.size w2 We) := Lib.hid (HBd.out.trans ((HBL.out.trans (HBE.out.mono HBL.out.size)).mono HBd.out.size))
              have HROOM : Hid (Room We S K) := Lib.hid (br.same (HB2E.out.block S (by omega)))
              have HS4 : Hid (We.cell? ⟨S + 1, 0, none⟩ = some (.slice (some ⟨S, 0, none⟩) m K)) := Lib.hid ((HBE.out.cell (World.block_lt_of_cell? _ _ hS3)).trans hS3)
              obtain ⟨i1, hi1, hz1, hz2, hz3⟩ := info_parts info114
              refine wpAnyK_all (rs := [8]) (by kernel_rfl) (by simp) ?_
              intro ix hix
              simp only [List.mem_cons, List.not_mem_nil, or_false] at hix
              subst hix
              refine wpK_op (o := _) (by rfl) (fun K9 hK9 => ?_)
              refine step_append_room (by rfl) _ _ _ (by rfl) 114 i1 Try.underlying106 hi1 S 0 m K 1 1 ⟨w3.heap.size, 0, none⟩ (slV c b) (by rfl) (by rfl) (by rw [hz2]; rfl) (World.news_of_block (cs := #[.int .i64 (c : Nat), .int .i64 1, .bool false, .slice (some ⟨b, 0, none⟩) (szN c) (szN c)]) (t := 114) (fr := (0, 0)) HLE.out) (by simp [slV, Value.oneCell']) hmK ?_ ?_ ?_
              · intro j hj
                rw [hz2, Nat.zero_add]
                obtain ⟨u, hu⟩ := HROOM.out.at_ (j := m * 4 + j) (by have : j < 4 := hj; omega)
                rw [hu]; rfl
              · intro j hj
                obtain ⟨cs, h1, h2⟩ := HROOM.out
                exact frozen_of h1 _
              rw [hz2, Nat.zero_add]
              have HSL := Lib.hid (HNP.out.slot hmK h5 (by rw [← HY.out]; exact hjy) HB2E.out ((HBE.out.block b (lt_of_heap HB3.out)).trans HB3.out) (Nat.le_trans HBd.out.size HBN.out))
              have k0 : (We.setCells S (m * 4) (slV c b)).cell? ⟨S + 1, 0, none⟩ = some (.slice (some ⟨S, 0, none⟩) m K) := (World.cell?_of_block (a := ⟨S + 1, 0, none⟩) (setCells_far S _ _ We (S + 1) (by omega))).trans HS4.out
              have k1 : (We.setCells S (m * 4) (slV c b)).frozen? ⟨S + 1, 0, none⟩ = false := (World.frozen?_of_block (a := ⟨S + 1, 0, none⟩) (setCells_far S _ _ We (S + 1) (by omega))).trans ((HB2E.out.frozen (p := ⟨S + 1, 0, none⟩) bB).trans (HNP.out.cell.2.1 0))
              generalize We.setCells S (m * 4) (slV c b) = Wf at *
              refine hK9 _ _ (fun _ _ => k0) ?_
              clear hK9 K9
              try simp only [Act.put, List.getElem_toArray, List.getElem_cons_zero, List.getElem_cons_succ, List.setIfInBounds_toArray, List.set_cons_zero, List.set_cons_succ]
              refine wpAnyK_all (rs := [9]) (by kernel_rfl) (by simp) ?_
              intro ix hix
              simp only [List.mem_cons, List.not_mem_nil, or_false] at hix
              subst hix
              refine wpK_op (o := _) (by rfl) (fun K9 hK9 => ?_)
              go_simp
              refine hK9 _ _ (fun h => absurd h (by omega)) ?_
              clear hK9 K9
              try simp only [Act.put, List.getElem_toArray, List.getElem_cons_zero, List.getElem_cons_succ, List.setIfInBounds_toArray, List.set_cons_zero, List.set_cons_succ]
              refine wpAnyK_all (rs := [10]) (by kernel_rfl) (by simp) ?_
              intro ix hix
              simp only [List.mem_cons, List.not_mem_nil, or_false] at hix
              subst hix
              refine wpK_op (o := _) (by rfl) (fun K9 hK9 => ?_)
              go_simp
              refine hK9 _ _ (fun h => absurd h (by omega)) ?_
              clear hK9 K9
              try simp only [Act.put, List.getElem_toArray, List.getElem_cons_zero, List.getElem_cons_succ, List.setIfInBounds_toArray, List.set_cons_zero, List.set_cons_succ]
              refine wpAnyK_all (rs := [11]) (by kernel_rfl) (by simp) ?_
              intro ix hix
              simp only [List.mem_cons, List.not_mem_nil, or_false] at hix
              subst hix
              refine wpK_op (o := _) (by rfl) (fun K9 hK9 => ?_)
              go_simp
              refine hK9 _ _ (fun h => absurd h (by omega)) ?_
              clear hK9 K9
              try simp only [Act.put, List.getElem_toArray, List.getElem_cons_zero, List.getElem_cons_succ, List.setIfInBounds_toArray, List.set_cons_zero, List.set_cons_succ]
              refine wpAnyK_done (by kernel_rfl) ?_ _
              go_wp2
              go_roundw
              case rel => exact ⟨j + 1, m + 1, by go_num, by omega, Lib.hid (by have := HMJ.out; omega), HSL⟩
              case measure => simp only [intOf]; omega
            · obtain rfl : y = j := by omega
              go_wp2
              go_roundw
              case rel => exact ⟨c + 1, by go_num, by omega, Lib.hid ⟨_, _, _, NewI.next (by rw [← HY.out]; exact HNJ.out)⟩⟩
              case measure => simp only [intOf]; omega
        · obtain rfl : c = 5 := by omega
          go_wp2
          go_ret2
          obtain ⟨sl, V, xs, ha, hr, hb, hf, hm⟩ := HNI.out
          exact ⟨S + 1, S, sl, P, I, V, xs, rfl, ha, hb, hf⟩
end Go.Proofs.Ytndmpdpmfieacaa
