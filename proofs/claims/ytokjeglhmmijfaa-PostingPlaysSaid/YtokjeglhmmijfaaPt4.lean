/-
  Two rows of lists grow by one list each; no condition.
-/
import Derived.Test.YtokjeglhmmijfaaPsy
namespace Go.Proofs.Ytokjeglhmmijfaa
open Go.RowKit Go.WideShapes Go.ChangeShapes
set_option linter.all false
def addO (x : Int) (L : List (List Nat)) : Bool := decide (0 ≤ x ∧ x ≤ 1073741824) && !hasB x L.flatten
def addX (x : Int) (L : List (List Nat)) : List (List Nat) := if addO x L = true then addL x.toNat L else L
def remO (x : Int) (L : List (List Nat)) : Bool := hasB x L.flatten
def remX (x : Int) (L : List (List Nat)) : List (List Nat) := if remO x L = true then remL x.toNat L else L
theorem not_has {y : Nat} {l : List Nat} (h : hasB (y : Int) l = false) : ¬ y ∈ l := fun hm => has_no h y hm rfl
theorem addO_yes {x : Int} {L : List (List Nat)} (h : addO x L = true) : ∃ y : Nat, x = y ∧ y ≤ 1073741824 ∧ ¬ y ∈ L.flatten := by
  unfold addO at h
  rw [Bool.and_eq_true, decide_eq_true_eq, Bool.not_eq_true'] at h
  obtain ⟨⟨h1, h2⟩, h3⟩ := h
  obtain ⟨y, rfl⟩ : ∃ y : Nat, x = y := ⟨x.toNat, by omega⟩
  exact ⟨y, rfl, by omega, not_has h3⟩
theorem addO_no {x : Int} {L : List (List Nat)} (h : addO x L = false) : ¬ (0 ≤ x ∧ x ≤ 1073741824) ∨ hasB x L.flatten = true := by
  unfold addO at h
  by_cases h1 : 0 ≤ x ∧ x ≤ 1073741824
  · rw [decide_eq_true h1, Bool.true_and, Bool.not_eq_false'] at h
    exact .inr h
  · exact .inl h1
theorem addX_right {x : Int} {L : List (List Nat)} (h : RL L) : RL (addX x L) := by
  unfold addX
  cases ho : addO x L with
  | false => exact h
  | true =>
    obtain ⟨y, rfl, h1, h2⟩ := addO_yes ho
    rw [if_pos rfl, Int.toNat_natCast]
    exact add_right h h1 h2
theorem addX_len {x : Int} {L : List (List Nat)} (h : RL L) : (addX x L).flatten.length ≤ L.flatten.length + 1 := by
  unfold addX
  cases ho : addO x L with
  | false => simp
  | true =>
    obtain ⟨y, rfl, h1, h2⟩ := addO_yes ho
    rw [if_pos rfl, Int.toNat_natCast]
    obtain ⟨a, b, e1, e2, _⟩ := add_parts h h1 h2
    rw [e1, e2]
    simp; omega
theorem remX_right {x : Int} {L : List (List Nat)} (h : RL L) : RL (remX x L) := by
  unfold remX
  cases ho : remO x L with
  | false => exact h
  | true =>
    obtain ⟨y, hy, rfl⟩ := has_yes ho
    rw [if_pos rfl, Int.toNat_natCast]
    exact rem_right h hy
theorem remX_len {x : Int} {L : List (List Nat)} (h : RL L) : (remX x L).flatten.length ≤ L.flatten.length := by
  unfold remX
  cases ho : remO x L with
  | false => simp
  | true =>
    obtain ⟨y, hy, rfl⟩ := has_yes ho
    rw [if_pos rfl, Int.toNat_natCast]
    obtain ⟨a, b, e1, e2⟩ := rem_parts h hy
    rw [e1, e2]
    simp
theorem prog_add (A : Option Addr) (n c : Nat) (L : List (List Nat)) (x : Int) (w : World) (h : PLF w F0 A n c L) (hR : RL L) (hn : n ≤ 1000) : Calls Try.prog 12 #[plV A n c, .int .i64 x] w (AddP F0 (addX x L) (addO x L) w) := by
  unfold addX
  cases ho : addO x L with
  | false => exact add_no F0 A n c L x w h hR (by omega) (addO_no ho)
  | true =>
    obtain ⟨y, rfl, h1, h2⟩ := addO_yes ho
    rw [if_pos rfl, Int.toNat_natCast]
    exact add_yes w F0 (F0_lt _) A n c L y h hR (by omega) h1 h2
theorem prog_rem (A : Option Addr) (n c : Nat) (L : List (List Nat)) (x : Int) (w : World) (h : PLF w F0 A n c L) (hR : RL L) (hn : n ≤ 1000) : Calls Try.prog 13 #[plV A n c, .int .i64 x] w (AddP F0 (remX x L) (remO x L) w) := by
  unfold remX
  cases ho : remO x L with
  | false => exact rem_no F0 A n c L x w h hR (by omega) ho
  | true =>
    obtain ⟨y, hy, rfl⟩ := has_yes ho
    rw [if_pos rfl, Int.toNat_natCast]
    exact rem_yes w F0 (F0_lt _) A n c L y h hR (by omega) ho
theorem ref_add (A : Option Addr) (n c : Nat) (L : List (List Nat)) (ws : List Ar) (x : Int) (w : World) (h : LK .i64 w w.heap.size A n c ws) (hl : ws.map Ar.l = L.map nb) (hR : RL L) (hn : n ≤ 1000) : Calls Try.prog 25 #[.slice A n c, .int .i64 x] w (RefR (addX x L) (addO x L) w) :=
  refAdd_any A n c L ws x w h hl hR hn _ rfl _ rfl
theorem ref_rem (A : Option Addr) (n c : Nat) (L : List (List Nat)) (ws : List Ar) (x : Int) (w : World) (h : LK .i64 w w.heap.size A n c ws) (hl : ws.map Ar.l = L.map nb) (hR : RL L) (hn : n ≤ 1000) : Calls Try.prog 26 #[.slice A n c, .int .i64 x] w (RefR (remX x L) (remO x L) w) :=
  refRem_any A n c L ws x w h hl hR hn _ rfl _ rfl
/-- Ids as a list. -/
def ofX (l : List Int) : List (List Nat) := if ascI 0 l = true then chunkL ((l.length + 15) / 16) (l.map Int.toNat) else []
def ofC (l : List Int) : Int := if ascI 0 l = true then 0 else 8
theorem asc_nat {l : List Int} (h : ascI 0 l = true) : ∃ l' : List Nat, l = nb l' ∧ l.map Int.toNat = l' ∧ ascB 0 l' = true := by
  obtain ⟨l', rfl⟩ := ascI_nat l 0 (by omega) h
  refine ⟨l', rfl, ?_, by rw [← ascI_cast l' 0]; exact h⟩
  rw [List.map_map]
  have : (Int.toNat ∘ (Nat.cast : Nat → Int)) = id := by funext x; simp
  rw [this, List.map_id]
theorem ofX_right (l : List Int) : RL (ofX l) := by
  unfold ofX
  split
  · rename_i h
    obtain ⟨l', e, e2, ha⟩ := asc_nat h
    rw [e2]
    exact chunk_right (by rw [e, nb_len]; omega) ha
  · exact RL.nil
theorem ofX_len (l : List Int) : (ofX l).flatten.length ≤ l.length := by
  unfold ofX
  split
  · rename_i h
    obtain ⟨l', e, e2, ha⟩ := asc_nat h
    rw [e2, chunk_flat _ _ (by rw [e, nb_len]; omega), e, nb_len]
    exact Nat.le_refl _
  · simp
theorem prog_of (A : Option Addr) (n c : Nat) (l : List Int) (w : World) (h : SK .i64 w w.heap.size A n c l) (hn : n ≤ 1000) : Calls Try.prog 10 #[.slice A n c] w (OfP (ofX l) (ofC l) F0 w) := by
  have hl := h.len
  unfold ofX ofC
  cases ha : ascI 0 l with
  | true =>
    obtain ⟨l', e, e2, hb⟩ := asc_nat ha
    rw [if_pos rfl, if_pos rfl, e2, hl]
    exact of_yes F0 w (F0_lt _) A n c l' (e ▸ h) hn hb
  | false =>
    rw [← riB_asc] at ha
    obtain ⟨K, h1, h2, h3⟩ := riB_false ha
    rw [if_neg (by simp), if_neg (by simp)]
    exact of_no F0 w A n c l h hn K (by omega) h2 h3
theorem ref_of (A : Option Addr) (n c : Nat) (l : List Int) (w : World) (h : SK .i64 w w.heap.size A n c l) (hn : n ≤ 1000) :
    Calls Try.prog 23 #[.slice A n c] w fun e w' => ∃ A' c' own, e = .returned (.tuple #[.slice A' (ofX l).length c', .int .i64 (ofC l)]) ∧ Below w.heap.size w w' ∧ OO w' w.heap.size (.slice A' (ofX l).length c') own ∧ own.map Ar.l = (ofX l).map nb := by
  have hl := h.len
  refine (refOf_gen A n c l w h hn _ rfl _ rfl).mono ?_
  rintro e w' ⟨hb, ⟨ho, A', c', own, rfl, hoo, hm⟩ | ⟨ho, rfl⟩⟩
  · obtain ⟨l', e1, e2, ha⟩ := asc_nat ho
    have hx : ofX l = chunkL ((l.length + 15) / 16) l' := by unfold ofX; rw [if_pos ho, e2]
    have hm2 : own.map Ar.l = (ofX l).map nb := by
      rw [hm, hx, ← hl, e1, nb_len]
      exact ckis_nb l' _ rfl
    have hn2 : own.length = (ofX l).length := maps_len hm2
    refine ⟨A', c', own, by rw [← hn2, show ofC l = 0 from by unfold ofC; rw [if_pos ho]], hb, ?_, hm2⟩
    rw [← hn2]
    exact hoo
  · have hx : ofX l = [] := by unfold ofX; rw [if_neg (by rw [ho]; simp)]
    rw [hx]
    exact ⟨none, 0, [], by rw [show ofC l = 8 from by unfold ofC; rw [if_neg (by rw [ho]; simp)]]; rfl, hb, OO.nil _ _ hb.size, rfl⟩
/-- The blocks of the two rows. -/
def RB (VX VY : Value) : Nat → Prop := fun b => VX.ownBlock = some b ∨ VY.ownBlock = some b
theorem Reads.ran {w w' : World} {B k : Nat} {A : Option Addr} {xs : List Value} {F : Nat → Prop} {V V' : Value} (h : Reads w B 1 A k xs) (hv : Av F A k) (hF : ∀ b, V.ownBlock = some b → F b) (hr : Ran V V' w w') (hl : B ≤ w.heap.size) : Reads w' B 1 A k xs := by
  refine ⟨h.1, fun hk => ?_⟩
  obtain ⟨ad, e, hb, hc⟩ := h.2 hk
  refine ⟨ad, e, hb, fun j u hu => ?_⟩
  have h1 := hc j u hu
  refine hr.grown.cell h1 ?_
  intro hx
  rw [block_of_add] at hx
  exact hv ad e hk (hF _ hx.symm)
theorem SK.ran {κ : IntKind} {w w' : World} {B k d : Nat} {A : Option Addr} {l : List Int} {F : Nat → Prop} {V V' : Value} (h : SK κ w B A k d l) (hv : Av F A k) (hF : ∀ b, V.ownBlock = some b → F b) (hr : Ran V V' w w') (hl : B ≤ w.heap.size) : SK κ w' B A k d l :=
  ⟨h.1, h.2.1, h.2.2.1, h.2.2.2.ran hv hF hr hl⟩
/-- The program's list where a row has grown that it keeps out of. -/
theorem PLF.ran {w w' : World} {F : Nat → Prop} {A : Option Addr} {n c : Nat} {L : List (List Nat)} {V V' : Value} (h : PLF w F A n c L) (hF : ∀ b, V.ownBlock = some b → F b) (hr : Ran V V' w w') : PLF w' F A n c L := by
  obtain ⟨ls, hk, hm, ha, he⟩ := h
  have hs := hr.grown.size
  exact ⟨ls, ⟨hk.1, hk.2.1, hk.2.2.1, (hk.2.2.2.1.ran ha hF hr (Nat.le_refl _)).more hs, fun e hm' => ((hk.2.2.2.2 e hm').ran (he e hm') hF hr (Nat.le_refl _)).more hs⟩, hm, ha, he⟩
theorem OO.on_ran {w w' : World} {N N' n : Nat} {t : TypeId} {v V V' : Value} {own : List Ar} {ys : List Value} (h : OO w N v own) (hV : Mid w N' t 1 V n ys) (h1 : t ≠ 28) (h2 : t ≠ 3) (hr : Ran V V' w w') : OO w' N v own :=
  ⟨h.row.on_ran hV (Ne.symm h1) hr, fun e he => (h.els e he).on_ran hV (Ne.symm h2) hr, Nat.le_trans h.le hr.grown.size⟩
/-- The two rows, what they hold, and their boxes' ids. -/
structure Pv (w W : World) (VX VY : Value) (m cap : Nat) (X Y : List Ar) (Ls : List (List (List Nat))) : Prop where
  bel : Below w.heap.size w W
  rx : Mid W w.heap.size 24 1 VX m (X.map Ar.v)
  ry : Mid W w.heap.size 53 1 VY m (Y.map Ar.v)
  lx : X.length = m
  ly : Y.length = m
  ll : Ls.length = m
  at_ : ∀ j, j < m → RL (Ls.getD j []) ∧ (Ls.getD j []).flatten.length ≤ cap ∧ PLF W (RB VX VY) (X.getD j dA).A (X.getD j dA).n (X.getD j dA).c (Ls.getD j []) ∧ ∃ own, OO W w.heap.size (Y.getD j dA).v own ∧ own.map Ar.l = (Ls.getD j []).map nb ∧ (Y.getD j dA).n = (Ls.getD j []).length ∧ (X.getD j dA).n = (Ls.getD j []).length
section
variable {w W W' : World} {VX VY : Value} {m cap : Nat} {X Y : List Ar} {Ls : List (List (List Nat))}
theorem Pv.on (h : Pv w W VX VY m cap X Y Ls) (hb : Below W.heap.size W W') : Pv w W' VX VY m cap X Y Ls :=
  ⟨h.bel.trans (hb.mono h.bel.size), h.rx.onb hb, h.ry.onb hb, h.lx, h.ly, h.ll, fun j hj => by
    obtain ⟨h1, h2, h3, own, h4, h5⟩ := h.at_ j hj
    exact ⟨h1, h2, h3.on hb, own, h4.onb hb, h5⟩⟩
theorem Pv.cell (h : Pv w W VX VY m cap X Y Ls) {j : Nat} (hj : j < m) :
    ∃ ax cx ay cy A n c A' n' c' own, VX = .slice (some ax) m cx ∧ VY = .slice (some ay) m cy ∧ W.cell? (ax.add j) = some (.slice A n c) ∧ W.cell? (ay.add j) = some (.slice A' n' c') ∧ RL (Ls.getD j []) ∧ (Ls.getD j []).flatten.length ≤ cap ∧ PLF W (RB VX VY) A n c (Ls.getD j []) ∧ OO W w.heap.size (.slice A' n' c') own ∧ own.map Ar.l = (Ls.getD j []).map nb ∧ n' = (Ls.getD j []).length ∧ n = (Ls.getD j []).length := by
  obtain ⟨ax0, cx, ex⟩ := h.rx.form
  obtain ⟨ay0, cy, ey⟩ := h.ry.form
  subst ex ey
  have key : ∀ (t : TypeId) (A : Option Addr) (c : Nat) (Z : List Ar), Mid W w.heap.size t 1 (.slice A m c) m (Z.map Ar.v) → Z.length = m → ∃ ad, A = some ad ∧ W.cell? (ad.add j) = some (Z.getD j dA).v := by
    intro t A c Z hz hl
    obtain ⟨ad, u, e, hb, hu, hc⟩ := hz.readsv.at_ hj
    refine ⟨ad, e, ?_⟩
    rw [hc]
    rw [List.getElem?_map, List.getElem?_eq_getElem (by omega)] at hu
    rw [List.getD_eq_getElem?_getD, List.getElem?_eq_getElem (by omega)]
    simpa using hu.symm
  obtain ⟨ax, e1, hcx⟩ := key 24 ax0 cx X h.rx h.lx
  obtain ⟨ay, e2, hcy⟩ := key 53 ay0 cy Y h.ry h.ly
  subst e1 e2
  obtain ⟨h1, h2, h3, own, h4, h5, h6, h7⟩ := h.at_ j hj
  exact ⟨ax, cx, ay, cy, _, _, _, _, _, _, own, rfl, rfl, hcx, hcy, h1, h2, h3, h4, h5, h6, h7⟩
end
theorem info24 : (Try.prog.info? 24).map (fun i => (i.zero, i.size, i.bytes)) = some (some (.agg #[.slice none 0 0]), 1, 24) := by kernel_rfl
theorem info53 : (Try.prog.info? 53).map (fun i => (i.zero, i.size, i.bytes)) = some (some (.slice none 0 0), 1, 24) := by kernel_rfl
theorem prog_addF (F : Nat → Prop) (A : Option Addr) (n c : Nat) (L : List (List Nat)) (x : Int) (w : World) (hF : ∀ b, F b → b < w.heap.size) (h : PLF w F A n c L) (hR : RL L) (hn : n ≤ 1000) : Calls Try.prog 12 #[plV A n c, .int .i64 x] w (AddP F (addX x L) (addO x L) w) := by
  unfold addX
  cases ho : addO x L with
  | false => exact add_no F A n c L x w h hR (by omega) (addO_no ho)
  | true =>
    obtain ⟨y, rfl, h1, h2⟩ := addO_yes ho
    rw [if_pos rfl, Int.toNat_natCast]
    exact add_yes w F hF A n c L y h hR (by omega) h1 h2
theorem prog_remF (F : Nat → Prop) (A : Option Addr) (n c : Nat) (L : List (List Nat)) (x : Int) (w : World) (hF : ∀ b, F b → b < w.heap.size) (h : PLF w F A n c L) (hR : RL L) (hn : n ≤ 1000) : Calls Try.prog 13 #[plV A n c, .int .i64 x] w (AddP F (remX x L) (remO x L) w) := by
  unfold remX
  cases ho : remO x L with
  | false => exact rem_no F A n c L x w h hR (by omega) ho
  | true =>
    obtain ⟨y, hy, rfl⟩ := has_yes ho
    rw [if_pos rfl, Int.toNat_natCast]
    exact rem_yes w F hF A n c L y h hR (by omega) ho
section
variable {w W W' W1 W2 W3 W4 : World} {VX VY VX' VY' : Value} {m cap cap' : Nat} {X Y : List Ar} {Ls : List (List (List Nat))}
theorem Pv.more (h : Pv w W VX VY m cap X Y Ls) (hc : cap ≤ cap') : Pv w W VX VY m cap' X Y Ls :=
  ⟨h.bel, h.rx, h.ry, h.lx, h.ly, h.ll, fun j hj => by
    obtain ⟨h1, h2, h3⟩ := h.at_ j hj
    exact ⟨h1, Nat.le_trans h2 hc, h3⟩⟩
theorem Pv.rb (h : Pv w W VX VY m cap X Y Ls) : ∀ b, RB VX VY b → b < W.heap.size := fun b hb => by
  rcases hb with hb | hb
  · exact (h.rx.lt b hb).2
  · exact (h.ry.lt b hb).2
/-- The reference's row where the program's has grown. -/
theorem Pv.ry2 (h : Pv w W VX VY m cap X Y Ls) (o1 : Obj) (r : Ran VX VX' (W.alloc o1) W2) (o3 : Obj) : Mid (W2.alloc o3) w.heap.size 53 1 VY m (Y.map Ar.v) :=
  ((h.ry.alloc_ o1).on_ran (h.rx.alloc_ o1) (by decide) r).alloc_ o3
theorem Pv.sz (h : Pv w W VX VY m cap X Y Ls) (o1 : Obj) (r : Ran VX VX' (W.alloc o1) W2) (o3 : Obj) : w.heap.size ≤ (W2.alloc o3).heap.size := by
  have := h.bel.size; have := r.grown.size; simp at this ⊢; omega
theorem getD_snoc {α : Type} (l : List α) (x d : α) (j : Nat) : (l ++ [x]).getD j d = if j < l.length then l.getD j d else if j = l.length then x else d := by
  rw [List.getD_eq_getElem?_getD, List.getD_eq_getElem?_getD]
  by_cases h : j < l.length
  · rw [if_pos h, List.getElem?_append_left h]
  · rw [if_neg h, List.getElem?_append_right (by omega)]
    by_cases h2 : j = l.length
    · subst h2; simp
    · rw [if_neg h2, List.getElem?_eq_none (by simp; omega)]; rfl
theorem Pv.push {A A' : Option Addr} {n c n' c' : Nat} {L : List (List Nat)} {own : List Ar} {o1 o3 : Obj} (h : Pv w W VX VY m cap X Y Ls)
    (hx : Mid W2 w.heap.size 24 1 VX' (m + 1) (X.map Ar.v ++ [.slice A n c])) (rx : Ran VX VX' (W.alloc o1) W2)
    (hy : Mid W4 w.heap.size 53 1 VY' (m + 1) (Y.map Ar.v ++ [.slice A' n' c'])) (ry : Ran VY VY' (W2.alloc o3) W4)
    (hL : RL L) (hl : L.flatten.length ≤ cap') (hc : cap ≤ cap') (hp : PLF W (RB VX VY) A n c L) (ho : OO W w.heap.size (.slice A' n' c') own) (hm : own.map Ar.l = L.map nb) (hn' : n' = L.length) (hn : n = L.length) :
    Pv w W4 VX' VY' (m + 1) cap' (X ++ [⟨A, n, c, []⟩]) (Y ++ [⟨A', n', c', []⟩]) (Ls ++ [L]) := by
  have s1 : (W.alloc o1).heap.size = W.heap.size + 1 := by simp
  have s3 : (W2.alloc o3).heap.size = W2.heap.size + 1 := by simp
  have g1 := rx.grown.size
  have g3 := ry.grown.size
  have hw := h.bel.size
  have y3 := h.ry2 o1 rx o3
  have b2 : Below w.heap.size w W2 := (h.bel.trans ((below_alloc W o1).mono hw)).grown rx.grown (by omega) (fun g hg => (h.rx.lt g hg).1)
  have b4 : Below w.heap.size w W4 := (b2.trans ((below_alloc W2 o3).mono b2.size)).grown ry.grown (by omega) (fun g hg => (h.ry.lt g hg).1)
  have hx4 : Mid W4 w.heap.size 24 1 VX' (m + 1) (X.map Ar.v ++ [.slice A n c]) := (hx.alloc_ o3).on_ran y3 (by decide) ry
  have key : ∀ {A : Option Addr} {n c : Nat} {L : List (List Nat)}, PLF W (RB VX VY) A n c L → PLF W4 (RB VX' VY') A n c L := by
    intro A n c L hp
    have p1 : PLF W (fun b => RB VX VY b ∨ RB VX' VY' b) A n c L := hp.fresh fun b hb => by
      rcases hb with hb | hb | hb
      · exact .inl hb
      · rcases rx.at_ with e | e
        · exact .inl (.inl (e ▸ hb))
        · exact .inr (by have := e b hb; omega)
      · rcases ry.at_ with e | e
        · exact .inl (.inr (e ▸ hb))
        · exact .inr (by have := e b hb; omega)
    have p2 := (p1.on (below_alloc W o1)).ran (V := VX) (fun b hb => .inl (.inl hb)) rx
    have p4 := (p2.on (below_alloc W2 o3)).ran (V := VY) (fun b hb => .inl (.inr hb)) ry
    exact p4.mono fun b hb => .inr hb
  have keyo : ∀ {v : Value} {own : List Ar}, OO W w.heap.size v own → OO W4 w.heap.size v own := fun ho =>
    ((((ho.onb (below_alloc W o1)).on_ran (h.rx.alloc_ o1) (by decide) (by decide) rx).onb (below_alloc W2 o3)).on_ran y3 (by decide) (by decide) ry)
  refine ⟨b4, by rw [List.map_append]; exact hx4, by rw [List.map_append]; exact hy, by rw [List.length_append, h.lx]; rfl, by rw [List.length_append, h.ly]; rfl, by rw [List.length_append, h.ll]; rfl, fun j hj => ?_⟩
  rw [getD_snoc, getD_snoc, getD_snoc, h.lx, h.ly, h.ll]
  by_cases hjm : j < m
  · rw [if_pos hjm, if_pos hjm, if_pos hjm]
    obtain ⟨h1, h2, h3, own, h4, h5⟩ := h.at_ j hjm
    exact ⟨h1, Nat.le_trans h2 hc, key h3, own, keyo h4, h5⟩
  · obtain rfl : j = m := by omega
    rw [if_neg hjm, if_neg hjm, if_neg hjm, if_pos rfl, if_pos rfl, if_pos rfl]
    exact ⟨hL, hl, key hp, own, keyo ho, hm, hn', hn⟩
end
/-- Two cells. -/
def Two (p q : Addr) (u v : Value) (W : World) : Prop := W.cell? p = some u ∧ W.cell? q = some v
/-- The program's list in a new box. -/
structure Box (F : Nat → Prop) (wr W : World) (b : Nat) (A : Option Addr) (n c : Nat) (L : List (List Nat)) : Prop where
  bel : Below wr.heap.size wr W
  cell : W.cell? ⟨b, 0, none⟩ = some (.slice A n c)
  ge : wr.heap.size ≤ b
  pl : PLF W F A n c L
theorem Box.on {F : Nat → Prop} {wr W W' : World} {b : Nat} {A : Option Addr} {n c : Nat} {L : List (List Nat)} (h : Box F wr W b A n c L) (hb : Below W.heap.size W W') : Box F wr W' b A n c L :=
  ⟨h.bel.trans (hb.mono h.bel.size), (hb.cell (World.block_lt_of_cell? _ _ h.cell)).trans h.cell, h.ge, h.pl.on hb⟩
/-- The list first, then the box. -/
theorem Box.late {F : Nat → Prop} {wr W : World} {A : Option Addr} {n c : Nat} {L : List (List Nat)} {b : Nat} (hb : Below wr.heap.size wr W) (hp : PLF W F A n c L) (he : b = W.heap.size) : Box F wr (W.alloc (.cells #[.slice A n c] 24)) b A n c L := by
  subst he
  have b1 := below_alloc W (.cells #[.slice A n c] 24)
  exact ⟨hb.trans (b1.mono hb.size), by rw [cell_of (heap_alloc_new W _) 0]; rfl, hb.size, hp.on b1⟩
/-- The box first, then the list. -/
theorem Box.early {F : Nat → Prop} {wr Wd W : World} {A : Option Addr} {n c : Nat} {L : List (List Nat)} {b : Nat} (hd : Below wr.heap.size wr Wd) (z : Value) (he : b = Wd.heap.size) (hb : Below (Wd.alloc (.cells #[z] 24)).heap.size (Wd.alloc (.cells #[z] 24)) W) (hp : PLF W (fun x => F x ∨ x = b) A n c L) : Box F wr (W.setCell ⟨b, 0, none⟩ (.slice A n c)) b A n c L := by
  subst he
  have h0 : (Wd.alloc (.cells #[z] 24)).heap[Wd.heap.size]? = some (.cells #[z] 24 (0, 0)) := heap_alloc_new Wd _
  have h0' : W.heap[Wd.heap.size]? = some (.cells #[z] 24 (0, 0)) := (hb.block _ (by simp)).trans h0
  have b1 : Below Wd.heap.size Wd (W.setCell ⟨Wd.heap.size, 0, none⟩ (.slice A n c)) := ((below_alloc Wd _).trans (hb.mono (by simp))).setCell (p := ⟨Wd.heap.size, 0, none⟩) (Nat.le_refl _) _
  refine ⟨hd.trans (b1.mono hd.size), ?_, hd.size, ?_⟩
  · have h1 := heap_setCell_same W Wd.heap.size 0 #[z] 24 (.slice A n c) h0'
    rw [cell_of h1 0]; rfl
  · exact (hp.far (b := Wd.heap.size) (.inr rfl) (.slice A n c) 0).mono fun x hx => .inl hx
/-- The rows at the beginning. -/
theorem Pv.first {w W : World} {A A' : Option Addr} {n c c' : Nat} {L : List (List Nat)} {own : List Ar} (hb : Below w.heap.size w W) (hp : PLF W F0 A n c L) (hR : RL L) (hn : n = L.length) (hc : L.flatten.length ≤ 100) {N : Nat} (hN : w.heap.size ≤ N) (ho : OO W N (.slice A' n c') own) (hm : own.map Ar.l = L.map nb) :
    Pv w ((W.alloc (.cells #[.slice A n c] 24)).alloc (.cells #[.slice A' n c'] 53)) (.slice (some ⟨W.heap.size, 0, none⟩) 1 1) (.slice (some ⟨W.heap.size + 1, 0, none⟩) 1 1) 1 100 [⟨A, n, c, []⟩] [⟨A', n, c', []⟩] [L] := by
  have e1 : (W.alloc (.cells #[.slice A n c] 24)).heap.size = W.heap.size + 1 := by simp
  have b1 := below_alloc W (.cells #[.slice A n c] 24)
  have b2 := below_alloc (W.alloc (.cells #[.slice A n c] 24)) (.cells #[.slice A' n c'] 53)
  have b3 : Below W.heap.size W ((W.alloc (.cells #[.slice A n c] 24)).alloc (.cells #[.slice A' n c'] 53)) := b1.trans (b2.mono b1.size)
  have hw := hb.size
  refine ⟨hb.trans (b3.mono hw), ?_, ?_, rfl, rfl, rfl, fun j hj => ?_⟩
  · exact (show Mid (W.alloc (.cells #[.slice A n c] 24)) w.heap.size 24 1 (.slice (some ⟨W.heap.size, 0, none⟩) 1 1) 1 [.slice A n c] from ⟨rfl, .inr ⟨W.heap.size, 0, 1, #[.slice A n c], rfl, hw, heap_alloc_new W _, Nat.le_refl _, by unfold maxLen; omega, by simp, rfl⟩⟩).onb b2
  · refine ⟨rfl, .inr ⟨W.heap.size + 1, 0, 1, #[.slice A' n c'], rfl, by omega, ?_, Nat.le_refl _, by unfold maxLen; omega, by simp, rfl⟩⟩
    rw [← e1]; exact heap_alloc_new _ _
  · obtain rfl : j = 0 := by omega
    refine ⟨hR, hc, ?_, own, (ho.lower hN).onb b3, hm, hn, hn⟩
    refine (hp.fresh (G := RB (.slice (some ⟨W.heap.size, 0, none⟩) 1 1) (.slice (some ⟨W.heap.size + 1, 0, none⟩) 1 1)) (fun b hb => .inr ?_)).on b3
    rcases hb with hb | hb
    · simp [Value.ownBlock] at hb; omega
    · simp [Value.ownBlock] at hb; omega
end Go.Proofs.Ytokjeglhmmijfaa
