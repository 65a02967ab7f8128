/-
  ArenaLeast at any order; conditions: lengths.
-/
import Derived.Test.YtndmpdpmfieacaaArF
namespace Go.Proofs.Ytndmpdpmfieacaa
open Go.RowKit Go.WideShapes Go.ChangeShapes
set_option linter.all false
theorem least_mem {xs : List Int} (h : Heaped xs xs.length) (x : Int) (hx : x ∈ xs) : xs.getD 0 0 ≤ x := by
  obtain ⟨i, hi, rfl⟩ := List.mem_iff_getElem.1 hx
  have := h.least i hi
  rwa [List.getD_eq_getElem?_getD (i := i), List.getElem?_eq_getElem hi] at this
def refL (m : Nat) (gs : Nat → Nat) : List Int := (List.range m).map fun (j : Nat) => refV (j : Nat) (gs j : Nat) true
def genL (m : Nat) (gs : Nat → Nat) : List Int := (List.range m).map fun (j : Nat) => ((gs j : Nat) : Int)
/-- An arena of n slots of class c: which are live, their generations; d are free. -/
structure LA (N B S k n c G d : Nat) (lv : Nat → Bool) (gs : Nat → Nat) (sl : List Sl) (P I : Nat → Nat) (V : Nat → Value) (xs : Nat → List Int) (W : World) : Prop where
  ar : Ar N B S k 5 sl P I V xs W
  ok : Ok sl xs G
  len : sl.length = n
  all : ∀ i, i < n → (sl.getD i dS).cls = c ∧ (sl.getD i dS).gen = gs i ∧ (sl.getD i dS).live = lv i
  cnt : (xs c).length = d
/-- Two rows beside it: the refs and the generations of the first m. -/
structure LR (w : World) (F : Nat → Prop) (N m : Nat) (gs gt : Nat → Nat) (VR VG : Value) (W : World) : Prop where
  rr : Rw F W N VR m (refL m gs)
  rg : Rw F W N VG m (genL m gt)
  ap : ∀ g, VR.ownBlock = some g → VG.ownBlock ≠ some g
  bel : Below w.heap.size w W
  ltF : ∀ b, F b → b < W.heap.size
  NW : w.heap.size ≤ N ∧ N ≤ W.heap.size
theorem refL_snoc (m : Nat) (gs : Nat → Nat) : refL (m + 1) gs = refL m gs ++ [refV (m : Int) (gs m : Int) true] := by simp [refL, List.range_succ]
theorem genL_snoc (m : Nat) (gs : Nat → Nat) : genL (m + 1) gs = genL m gs ++ [(gs m : Int)] := by simp [genL, List.range_succ]
theorem rl_get {m : Nat} {f : Nat → Int} {k : Nat} (hk : k < m) : ((List.range m).map f)[k]? = some (f k) := by simp [hk]
theorem rl_set (m : Nat) (f : Nat → Int) (k : Nat) (x : Int) : ((List.range m).map f).set k x = (List.range m).map fun j => if j = k then x else f j := by
  apply List.ext_getElem?
  intro j
  rw [List.getElem?_set]
  by_cases hj : j < m
  · by_cases e : k = j
    · subst e; simp [hj]
    · rw [if_neg e]
      simp [hj, Ne.symm e]
  · by_cases e : k = j
    · subst e; simp [hj]
    · rw [if_neg e]; simp [hj]
section
variable {w W W' : World} {N B S k n c G d m : Nat} {lv : Nat → Bool} {gs gt : Nat → Nat} {VR VG : Value} {sl : List Sl} {P I : Nat → Nat} {V : Nat → Value} {xs : Nat → List Int} {F F' : Nat → Prop}
theorem LA.on (h : LA N B S k n c G d lv gs sl P I V xs W) (hb : Below W.heap.size W W') : LA N B S k n c G d lv gs sl P I V xs W' := ⟨h.ar.on hb, h.ok, h.len, h.all, h.cnt⟩
/-- The next one that is taken. -/
theorem LA.head (h : LA N B S k n c G d lv gs sl P I V xs W) (hc : c < 5) (hd : 0 < d) : xs c ≠ [] ∧ ∃ i, i < n ∧ (xs c).getD 0 0 = (i : Int) ∧ lv i = false ∧ ∀ j, j < n → lv j = false → i ≤ j := by
  have hne : xs c ≠ [] := fun e => by have := h.cnt; rw [e] at this; simp at this; omega
  obtain ⟨i, hi, e, hcc, hl⟩ := h.ok.head hne
  rw [h.len] at hi
  have ha := h.all i hi
  refine ⟨hne, i, hi, e, by rw [← ha.2.2]; exact hl, fun j hj hlj => ?_⟩
  have hj2 := h.all j hj
  have hmem : (j : Int) ∈ xs c := by
    have h2 := h.ok.free j (by rw [h.len]; exact hj)
    rw [hj2.1] at h2
    exact h2.2 (by rw [hj2.2.2]; exact hlj)
  have h1 := least_mem (h.ar.pl c hc).heap _ hmem
  rw [e] at h1
  omega
theorem LA.alloc (h : LA N B S k n c G d lv gs sl P I V xs W) (hc : c < 5) (hn : n ≤ 1024) (hG : G ≤ 1000000) (hd9 : d ≤ 1024) (hd : 0 < d) {i : Nat} (hi : i < n) (hx : (xs c).getD 0 0 = (i : Int)) {A : Option Addr} {mm cc M : Nat} {l : List Int} (hr : Reads W M 1 A mm (wv l)) (hM : M ≤ W.heap.size) (hfar : ∀ ad, A = some ad → 0 < mm → ¬ Foot B S 5 sl P I V ad.block) (hm : mm ≤ szN c) :
    Calls Try.prog 23 #[.pointer (some ⟨B, 0, none⟩), .int .i64 (c : Nat), .slice A mm cc] W fun e w' => e = .returned (.tuple #[.int .i64 (refV (i : Nat) (gs i : Nat) (((c : Nat) : Int) == 0)), .int .i64 0]) ∧ ∃ sl' V' xs', LA N B S k n c G (d - 1) (up lv i true) gs sl' P I V' xs' w' ∧ Mv (Foot B S 5 sl P I V) (Foot B S 5 sl' P I V') W w' ∧ sl' = sl.set i (made (sl.getD i dS) l) := by
  have hne : xs c ≠ [] := fun e => by have := h.cnt; rw [e] at this; simp at this; omega
  have hl := h.len
  have ha := h.all i hi
  have hg := h.ok.gen i (by omega)
  have hcn := h.cnt
  refine (alloc_ok h.ar (by omega) (i := i) hc hr hM hfar hm hne (by omega) (by omega) hx ha.1 (by omega)).mono ?_
  rintro e w' ⟨rfl, v', har, hmv⟩
  rw [ha.2.1]
  refine ⟨rfl, _, _, _, ⟨har, h.ok.alloc (by omega) hne hx ha.1 (h.ar.pl c hc).nodup l, by rw [List.length_set]; exact hl, fun j hj => ?_, by rw [up_same, popF_len _ hne, hcn]⟩, hmv, rfl⟩
  rw [getD_set (by omega)]
  by_cases e : j = i
  · subst e
    rw [if_pos rfl, up_same]
    exact ⟨ha.1, ha.2.1, rfl⟩
  · rw [if_neg e, up_other _ _ e]
    exact h.all j hj
theorem LA.freed (h : LA N B S k n c G d lv gs sl P I V xs W) (hc : c < 5) (hn : n ≤ 1024) (hk : n ≤ k) (hG : G ≤ 1000000) (hd9 : d ≤ 1024) {i : Nat} (hi : i < n) (hl : lv i = true) :
    Calls Try.prog 18 #[.pointer (some ⟨B, 0, none⟩), .int .i64 (refV (i : Nat) (gs i : Nat) (((c : Nat) : Int) == 0))] W fun e w' => e = .returned (.int .i64 0) ∧ ∃ sl' V' xs', LA N B S k n c (G + 1) (d + 1) (up lv i false) (up gs i (gs i + 1)) sl' P I V' xs' w' ∧ Mv (Foot B S 5 sl P I V) (Foot B S 5 sl' P I V') W w' ∧ sl' = sl.set i (freed (sl.getD i dS)) := by
  have hlen := h.len
  have ha := h.all i hi
  have hg := h.ok.gen i (by omega)
  have hcn := h.cnt
  have hlv := live_ref (sl := sl) (i := i) (by omega) (by omega) (by rw [ha.2.2]; exact hl) (by omega)
  rw [ha.1, ha.2.1] at hlv
  refine (free_ok h.ar (by omega) hlv (by omega) (by omega) (h.ok.not_mem (by omega) (by rw [ha.2.2]; exact hl)) (by rw [ha.1]; omega)).mono ?_
  rintro e w' ⟨rfl, v', har, hmv⟩
  rw [ha.1] at har hmv
  refine ⟨rfl, _, _, _, ⟨har, h.ok.freed (by omega) ha.1, by rw [List.length_set]; exact hlen, fun j hj => ?_, by rw [up_same, pushF_len, hcn]⟩, hmv, rfl⟩
  rw [getD_set (by omega)]
  by_cases e : j = i
  · subst e
    rw [if_pos rfl, up_same, up_same]
    exact ⟨ha.1, by show _ + 1 = _; rw [ha.2.1], rfl⟩
  · rw [if_neg e, up_other _ _ e, up_other _ _ e]
    exact h.all j hj
theorem LR.mv (h : LR w F N m gs gt VR VG W) (hm : Mv F F' W W') (hF : ∀ b, F b → N ≤ b) (hl : ∀ b, F' b → b < W'.heap.size) : LR w F' N m gs gt VR VG W' := by
  have hb := h.bel
  have hN := h.NW
  have hs := hm.size
  exact ⟨h.rr.mv hm, h.rg.mv hm, h.ap, ⟨hm.os.trans hb.os, hm.tape.trans hb.tape, hm.output.trans hb.output, Nat.le_trans hb.size hs, fun b hbn => (hm.block b (by omega) (fun hf => by have := hF b hf; omega)).trans (hb.block b hbn)⟩, hl, by omega⟩
theorem LR.on (h : LR w F N m gs gt VR VG W) (hb : Below W.heap.size W W') : LR w F N m gs gt VR VG W' :=
  ⟨h.rr.on hb, h.rg.on hb, h.ap, h.bel.trans (hb.mono h.bel.size), fun b hf => Nat.lt_of_lt_of_le (h.ltF b hf) hb.size, by have := h.NW; have := hb.size; omega⟩
theorem LA.same (h : LA N B S k n c G d lv gs sl P I V xs W) (hb : ∀ b, Foot B S 5 sl P I V b → W'.heap[b]? = W.heap[b]?) : LA N B S k n c G d lv gs sl P I V xs W' := ⟨h.ar.same hb, h.ok, h.len, h.all, h.cnt⟩
theorem rng_map (m : Nat) (f : Nat → Int) : ks .i64 ((List.range (m + 1)).map f) = ks .i64 ((List.range m).map f) ++ [.int .i64 (f m)] := by simp [ks, List.range_succ]
/-- The second row where the first has grown. -/
theorem LR.mid2 (h : LR w F N m gs gt VR VG W) {VR' : Value} (o1 o3 : Obj) {W2 : World} (rx : Ran VR VR' (W.alloc o1) W2) : Mid (W2.alloc o3) N 3 1 VG m (ks .i64 (genL m gt)) ∧ N ≤ (W2.alloc o3).heap.size := by
  have hN := h.NW
  have := rx.grown.size
  simp at this
  exact ⟨((h.rg.mid.onb (below_alloc W o1)).on_apart (fun g hg hr => h.ap g hr hg) rx).onb (below_alloc W2 o3), by simp; omega⟩
set_option maxRecDepth 100000 in
theorem LR.push (h : LR w F N m gs gt VR VG W) {VR' VG' : Value} {o1 o3 : Obj} {W2 W4 : World} (hx : Mid W2 N 3 1 VR' (m + 1) (ks .i64 (refL m gs) ++ [.int .i64 (refV (m : Nat) (gs m : Nat) true)])) (rx : Ran VR VR' (W.alloc o1) W2)
    (hy : Mid W4 N 3 1 VG' (m + 1) (ks .i64 (genL m gt) ++ [.int .i64 ((gt m : Nat) : Int)])) (ry : Ran VG VG' (W2.alloc o3) W4) : LR w F N (m + 1) gs gt VR' VG' W4 ∧ ∀ b, F b → W4.heap[b]? = W.heap[b]? := by
  have hb := h.bel
  have hN := h.NW
  have s1 : (W.alloc o1).heap.size = W.heap.size + 1 := by simp
  have s3 : (W2.alloc o3).heap.size = W2.heap.size + 1 := by simp
  have g1 := rx.grown.size
  have g3 := ry.grown.size
  have b1 := below_alloc W o1
  have b3 := below_alloc W2 o3
  have hap : ∀ g, VG.ownBlock = some g → VR.ownBlock ≠ some g := fun g hg hr => h.ap g hr hg
  have r2 : Rw F W2 N VR' (m + 1) (refL (m + 1) gs) := by
    have := (h.rr.on b1).app (fun b hf => by have := h.ltF b hf; omega) hx rx
    rwa [← refL_snoc] at this
  have q2 : Rw F W2 N VG m (genL m gt) := (h.rg.on b1).other hap rx
  have ap2 : ∀ g, VR'.ownBlock = some g → VG.ownBlock ≠ some g := fun g hg hv => apart_ran hap (fun g hg => by have := (h.rg.mid.lt g hg).2; omega) rx g hv hg
  have lt2 : ∀ b, F b → b < W2.heap.size := fun b hf => by have := h.ltF b hf; omega
  have r4 : Rw F W4 N VG' (m + 1) (genL (m + 1) gt) := by
    have := (q2.on b3).app (fun b hf => by have := lt2 b hf; omega) hy ry
    rwa [← genL_snoc] at this
  have q4 : Rw F W4 N VR' (m + 1) (refL (m + 1) gs) := (r2.on b3).other ap2 ry
  have hb2 : Below w.heap.size w W2 := (hb.trans (b1.mono hb.size)).grown rx.grown (by have := hb.size; omega) (fun g hg => Nat.le_trans hN.1 (h.rr.mid.lt g hg).1)
  have hb4 : Below w.heap.size w W4 := (hb2.trans (b3.mono hb2.size)).grown ry.grown (by have := hb2.size; omega) (fun g hg => Nat.le_trans hN.1 (h.rg.mid.lt g hg).1)
  refine ⟨⟨q4, r4, apart_ran ap2 (fun g hg => by have := (r2.mid.lt g hg).2; omega) ry, hb4, fun b hf => by have := lt2 b hf; omega, by omega⟩, fun b hf => ?_⟩
  have e1 := b1.block b (h.ltF b hf)
  have e2 := rx.grown.block b (by have := h.ltF b hf; omega) (fun e => h.rr.out b e.symm hf)
  have e3 := b3.block b (lt2 b hf)
  have e4 := ry.grown.block b (by have := lt2 b hf; omega) (fun e => h.rg.out b e.symm hf)
  exact e4.trans (e3.trans (e2.trans e1))
theorem Rw.get {A : Option Addr} {cc kk : Nat} {f : Nat → Int} (h : Rw F W N (.slice A m cc) m ((List.range m).map f)) (hk : kk < m) : ∃ ad, A = some ad ∧ W.cell? (ad.add kk) = some (.int .i64 (f kk)) := by
  obtain ⟨ad, u, e, hb, hu, hc⟩ := h.mid.readsv.at_ hk
  refine ⟨ad, e, ?_⟩
  rw [hc]
  unfold ks at hu
  rw [List.getElem?_map, rl_get hk] at hu
  exact hu.symm
theorem Rw.set {A : Option Addr} {cc kk : Nat} {f : Nat → Int} (h : Rw F W N (.slice A m cc) m ((List.range m).map f)) (hk : kk < m) (x : Int) : ∃ ad v, A = some ad ∧ W.cell? (ad.add kk) = some v ∧ W.frozen? (ad.add kk) = false ∧ Rw F (W.setCell (ad.add kk) (.int .i64 x)) N (.slice A m cc) m ((List.range m).map fun j => if j = kk then x else f j) ∧ N ≤ ad.block ∧ (Value.slice A m cc).ownBlock = some ad.block := by
  obtain ⟨ad, v, e, hc, hf, hm, hN, _, _, ho⟩ := h.mid.put hk (.int .i64 x)
  refine ⟨ad, v, e, hc, hf, ⟨?_, h.out⟩, hN, ho⟩
  rw [← rl_set]
  unfold ks at hm ⊢
  rw [List.map_set]
  exact hm
end
section
variable {w W : World} {N m kk cc : Nat} {gs gt : Nat → Nat} {F : Nat → Prop} {A : Option Addr} {VR VG : Value}
theorem LR.setG (h : LR w F N m gs gt VR (.slice A m cc) W) (hk : kk < m) (x : Nat) : ∃ ad v, A = some ad ∧ W.cell? (ad.add kk) = some v ∧ W.frozen? (ad.add kk) = false ∧ LR w F N m gs (up gt kk x) VR (.slice A m cc) (W.setCell (ad.add kk) (.int .i64 (x : Nat))) ∧ ∀ b, F b → (W.setCell (ad.add kk) (.int .i64 (x : Nat))).heap[b]? = W.heap[b]? := by
  have hN := h.NW
  obtain ⟨ad, v, e, hc, hf, hr, hb, ho⟩ := Rw.set (f := fun j => ((gt j : Nat) : Int)) h.rg hk (x : Nat)
  have hbk : (ad.add kk).block = ad.block := block_of_add ..
  refine ⟨ad, v, e, hc, hf, ⟨⟨h.rr.mid.far_set (fun g hg => by rw [hbk]; rintro rfl; exact h.ap _ hg ho) _, h.rr.out⟩, ?_, h.ap, h.bel.setCell (by rw [hbk]; omega) _, fun b hf => by simpa using h.ltF b hf, by simpa using hN⟩, fun b hf => heap_far _ _ _ (by rw [hbk]; rintro rfl; exact h.rg.out _ ho hf)⟩
  have e2 : genL m (up gt kk x) = (List.range m).map fun j => if j = kk then ((x : Nat) : Int) else ((gt j : Nat) : Int) := by
    unfold genL
    refine congrArg (fun f => List.map f (List.range m)) (funext fun j => ?_)
    by_cases e : j = kk
    · subst e; rw [up_same, if_pos rfl]
    · rw [up_other _ _ e, if_neg e]
  rw [e2]; exact hr
theorem LR.setR (h : LR w F N m gs gt (.slice A m cc) VG W) (hk : kk < m) (x : Nat) : ∃ ad v, A = some ad ∧ W.cell? (ad.add kk) = some v ∧ W.frozen? (ad.add kk) = false ∧ LR w F N m (up gs kk x) gt (.slice A m cc) VG (W.setCell (ad.add kk) (.int .i64 (refV (kk : Nat) (x : Nat) true))) ∧ ∀ b, F b → (W.setCell (ad.add kk) (.int .i64 (refV (kk : Nat) (x : Nat) true))).heap[b]? = W.heap[b]? := by
  have hN := h.NW
  obtain ⟨ad, v, e, hc, hf, hr, hb, ho⟩ := Rw.set (f := fun j => refV (j : Nat) (gs j : Nat) true) h.rr hk (refV (kk : Nat) (x : Nat) true)
  have hbk : (ad.add kk).block = ad.block := block_of_add ..
  refine ⟨ad, v, e, hc, hf, ⟨?_, ⟨h.rg.mid.far_set (fun g hg => by rw [hbk]; rintro rfl; exact h.ap _ ho hg) _, h.rg.out⟩, h.ap, h.bel.setCell (by rw [hbk]; omega) _, fun b hf => by simpa using h.ltF b hf, by simpa using hN⟩, fun b hf => heap_far _ _ _ (by rw [hbk]; rintro rfl; exact h.rr.out _ ho hf)⟩
  have e2 : refL m (up gs kk x) = (List.range m).map fun j => if j = kk then refV (kk : Nat) (x : Nat) true else refV (j : Nat) (gs j : Nat) true := by
    unfold refL
    refine congrArg (fun f => List.map f (List.range m)) (funext fun j => ?_)
    by_cases e : j = kk
    · subst e; rw [up_same, if_pos rfl]
    · rw [up_other _ _ e, if_neg e]
  rw [e2]; exact hr
end
end Go.Proofs.Ytndmpdpmfieacaa
