/-
  The law EpochPlays at any calls: the walk; no condition.
-/
import Derived.Test.YtafedpphecfgnaaEy6
import Derived.Test.YtafedpphecfgnaaEx5
import Derived.Test.YtafedpphecfgnaaFr
import Derived.Test.YtafedpphecfgnaaAnyT
import Derived.Deep.CutBlock
import Derived.Deep.CutRange
namespace Go.Proofs.Ytafedpphecfgnaa
open Go.RowKit Go.WideShapes Go.ChangeShapes
set_option linter.all false
theorem add_two_addr (a : Addr) (n : Nat) (h : 0 < n) : a.add n = ⟨a.block, a.off + n, none⟩ := by unfold Addr.add; rw [if_neg (by omega)]
/-- One call further: small as before, the epoch one later at most. -/
def Nx (k : Nat) (s s' : Sta) : Prop := (s.now ≤ 999 → Sml k s') ∧ s'.now ≤ s.now + 1
section
variable {k : Nat} {s : Sta}
theorem Nx.same (h : Sml k s) : Nx k s s := ⟨fun _ => h, by omega⟩
theorem nx_pin (h : Sml k s) (c n : Int) : Nx k s (pinS k s c n) := by
  unfold pinS; split
  · exact ⟨fun _ => ⟨h.n0, h.n9, h.l9, h.bd, h.ln⟩, by show s.now ≤ _; omega⟩
  · exact Nx.same h
theorem nx_unp (h : Sml k s) (c : Int) : Nx k s (unpS k s c) := by
  unfold unpS; split
  · exact ⟨fun _ => ⟨h.n0, h.n9, h.l9, h.bd, h.ln⟩, by show s.now ≤ _; omega⟩
  · exact Nx.same h
theorem nx_adv (h : Sml k s) (n : Int) : Nx k s (advS s n) := by
  unfold advS; split
  · exact ⟨fun h9 => ⟨by have := h.n0; show 0 ≤ s.now + 1; omega, by show s.now + 1 ≤ 1000; omega, h.l9, fun j hj p hp => by have := h.bd j hj p hp; show 0 ≤ p.2 ∧ p.2 ≤ s.now + 1; omega, h.ln⟩, by show s.now + 1 ≤ _; omega⟩
  · exact Nx.same h
theorem nx_ret (h : Sml k s) (c r : Int) : Nx k s (retS k s c r) := by
  unfold retS; split
  · rename_i hv
    have hl : ((s.wt c.toNat).length : Int) < s.lim := by
      unfold retV at hv
      split at hv
      · split at hv
        · simp at hv
        · omega
      · simp at hv
    have h9 := h.l9
    refine ⟨fun _ => ⟨h.n0, h.n9, h.l9, fun j hj p hp => ?_, fun j hj => ?_⟩, by show s.now ≤ _; omega⟩
    · show 0 ≤ p.2 ∧ p.2 ≤ s.now
      have hp' : p ∈ updA s.wt c.toNat (s.wt c.toNat ++ [(r, s.now)]) j := hp
      unfold updA at hp'
      split at hp'
      · rename_i e
        rcases List.mem_append.1 hp' with hp' | hp'
        · exact h.bd j hj p (by rw [e]; exact hp')
        · simp only [List.mem_singleton] at hp'; subst hp'; exact ⟨h.n0, Int.le_refl _⟩
      · exact h.bd j hj p hp'
    · show (updA s.wt c.toNat (s.wt c.toNat ++ [(r, s.now)]) j).length ≤ 64
      unfold updA
      split
      · rw [List.length_append]; simp only [List.length_cons, List.length_nil]; omega
      · exact h.ln j hj
  · exact Nx.same h
theorem nx_col (h : Sml k s) (c : Int) : Nx k s (colS k s c) := by
  unfold colS; split
  · refine ⟨fun _ => ⟨h.n0, h.n9, h.l9, fun j hj p hp => ?_, fun j hj => ?_⟩, by show s.now ≤ _; omega⟩
    · show 0 ≤ p.2 ∧ p.2 ≤ s.now
      have hp' : p ∈ updA s.wt c.toNat ((s.wt c.toNat).drop 1) j := hp
      unfold updA at hp'
      split at hp'
      · rename_i e; exact h.bd j hj p (by rw [e]; exact List.mem_of_mem_drop hp')
      · exact h.bd j hj p hp'
    · show (updA s.wt c.toNat ((s.wt c.toNat).drop 1) j).length ≤ 64
      unfold updA
      split
      · rename_i e; have := h.ln j hj; rw [e] at this; rw [List.length_drop]; omega
      · exact h.ln j hj
  · exact Nx.same h
end
section
variable {D m D' m' : Nat} {G G' : Nat → Int} {W : World} {E R Q A B k : Nat} {s u : Sta} {V : Bool × Nat → Value} {w w' : World}
theorem okx_less {i : Nat × Nat} (h : okx m k i) (ht : i.1 ≠ 11) : okx m' k i := ⟨h.1, fun e => absurd e ht, h.2.2.1, h.2.2.2⟩
theorem adx_less {i : Nat × Nat} (ht : i.1 ≠ 11) (h : i.1 < 12) : adx D E R Q A B i = adx D' E R Q A B i := by
  obtain ⟨t, j⟩ := i
  simp only at ht h
  rcases t with _ | _ | _ | _ | _ | _ | _ | _ | _ | _ | _ | _ | t <;> first | rfl | omega
theorem cvx_less {i : Nat × Nat} (ht : i.1 ≠ 11) (h : i.1 < 12) : cvx G R A B k s u V i = cvx G' R A B k s u V i := by
  obtain ⟨t, j⟩ := i
  simp only at ht h
  rcases t with _ | _ | _ | _ | _ | _ | _ | _ | _ | _ | _ | _ | t <;> first | rfl | omega
/-- With the call's own box. -/
theorem Both.withBox (h : Both D 0 G W E R Q A B k s u V w) (F : Nat → Int) (t : TypeId) : Both w.heap.size 3 F W E R Q A B k s u V (w.alloc (.cells #[.int .i64 (F 0), .int .i64 (F 1), .int .i64 (F 2)] t)) := by
  have hb := Hp.below h ((Below.refl _ _).alloc (Nat.le_refl _) (.cells #[.int .i64 (F 0), .int .i64 (F 1), .int .i64 (F 2)] t))
  have hlt : ∀ i, okx 0 k i → (adx D E R Q A B i).block < w.heap.size := fun i hi => Hp.lt h i hi
  have n11 : ∀ {i : Nat × Nat}, okx 0 k i → i.1 ≠ 11 := fun hi e => absurd (hi.2.1 e) (by omega)
  have dec : ∀ {i : Nat × Nat}, okx 3 k i → (okx 0 k i ∧ adx w.heap.size E R Q A B i = adx D E R Q A B i ∧ cvx F R A B k s u V i = cvx G R A B k s u V i) ∨ ∃ j, j < 3 ∧ i = (11, j) := fun {i} hi => by
    by_cases e : i.1 = 11
    · exact .inr ⟨i.2, hi.2.1 e, by rw [← e]⟩
    · exact .inl ⟨okx_less hi e, adx_less e hi.1, cvx_less e hi.1⟩
  have box : ∀ j, j < 3 → (w.alloc (.cells #[.int .i64 (F 0), .int .i64 (F 1), .int .i64 (F 2)] t)).cell? (adx w.heap.size E R Q A B (11, j)) = some (cvx F R A B k s u V (11, j)) := fun j hj => by
    show (w.alloc _).cell? ⟨w.heap.size, j, none⟩ = some (.int .i64 (F j))
    rw [World.cell?_alloc_at _ _ _ _ rfl]
    rcases j with _ | _ | _ | j <;> first | rfl | omega
  have bad : ∀ j, (adx w.heap.size E R Q A B (11, j)).block = w.heap.size := fun _ => rfl
  refine ⟨fun i hi => ?_, fun i hi => ?_, hb.own, hb.apart, fun i hi r hr => ?_, fun i j hi hj e => ?_, fun i hi => ?_, hb.bel⟩
  · rcases dec hi with ⟨h0, e1, e2⟩ | ⟨j, hj, rfl⟩
    · rw [e1, e2]; exact hb.cv i h0
    · exact box j hj
  · rcases dec hi with ⟨h0, e1, e2⟩ | ⟨j, hj, rfl⟩
    · rw [e1]; exact hb.fv i h0
    · exact World.frozen?_alloc_at _ _ _ _ rfl
  · rcases dec hi with ⟨h0, e1, e2⟩ | ⟨j, hj, rfl⟩
    · rw [e1]; exact hb.off i h0 r hr
    · intro e; have := Hp.own_lt h r hr _ e; rw [bad] at this; omega
  · rcases dec hi with ⟨h0, e1, e2⟩ | ⟨a, ha, rfl⟩
    · rcases dec hj with ⟨h0', e1', e2'⟩ | ⟨b, hb', rfl⟩
      · rw [e1, e1'] at e; exact hb.inj i j h0 h0' e
      · rw [e1] at e; have := hlt i h0; rw [e, bad] at this; omega
    · rcases dec hj with ⟨h0', e1', e2'⟩ | ⟨b, hb', rfl⟩
      · rw [e1'] at e; have := hlt j h0'; rw [← e, bad] at this; omega
      · have e' : (⟨w.heap.size, a, none⟩ : Addr) = ⟨w.heap.size, b, none⟩ := e
        injection e' with _ e'; rw [e']
  · rcases dec hi with ⟨h0, e1, e2⟩ | ⟨j, hj, rfl⟩
    · rw [e1]; exact hb.lo i h0
    · rw [bad]; exact (Hp.bel h).size
theorem Both.noBox (h : Both D m G W E R Q A B k s u V w) : Both D' 0 G' W E R Q A B k s u V w := by
  have n11 : ∀ {i : Nat × Nat}, okx 0 k i → i.1 ≠ 11 := fun hi e => absurd (hi.2.1 e) (by omega)
  have dec : ∀ {i : Nat × Nat}, okx 0 k i → okx m k i ∧ adx D' E R Q A B i = adx D E R Q A B i ∧ cvx G' R A B k s u V i = cvx G R A B k s u V i := fun {i} hi => ⟨okx_less hi (n11 hi), adx_less (n11 hi) hi.1, cvx_less (n11 hi) hi.1⟩
  refine ⟨fun i hi => ?_, fun i hi => ?_, Hp.own h, Hp.apart h, fun i hi r hr => ?_, fun i j hi hj e => ?_, fun i hi => ?_, Hp.bel h⟩
  · obtain ⟨h0, e1, e2⟩ := dec hi; rw [e1, e2]; exact Hp.cv h i h0
  · obtain ⟨h0, e1, e2⟩ := dec hi; rw [e1]; exact Hp.fv h i h0
  · obtain ⟨h0, e1, e2⟩ := dec hi; rw [e1]; exact Hp.off h i h0 r hr
  · obtain ⟨h0, e1, e2⟩ := dec hi
    obtain ⟨h0', e1', e2'⟩ := dec hj
    rw [e1, e1'] at e; exact Hp.inj h i j h0 h0' e
  · obtain ⟨h0, e1, e2⟩ := dec hi; rw [e1]; exact Hp.lo h i h0
/-- The state at the beginning. -/
def sta0 (lim : Int) : Sta := ⟨0, lim, fun _ => -1, fun _ => []⟩
theorem both_new {lim : Int} (c0 : w.cell? ⟨E, 0, none⟩ = some (.int .i64 0)) (f0 : w.frozen? ⟨E, 0, none⟩ = false) (c1 : w.cell? ⟨E, 1, none⟩ = some (.int .i64 lim)) (c2 : w.cell? ⟨E, 2, none⟩ = some (.slice (some ⟨R, 0, none⟩) k k)) (f1 : w.frozen? ⟨E, 1, none⟩ = false) (f2 : w.frozen? ⟨E, 2, none⟩ = false) (T0 : Tbl (pa0 R) (la0 R) k k w)
    (d0 : w.cell? ⟨Q, 0, none⟩ = some (.int .i64 0)) (g0 : w.frozen? ⟨Q, 0, none⟩ = false) (d1 : w.cell? ⟨Q, 1, none⟩ = some (.int .i64 lim)) (d2 : w.cell? ⟨Q, 2, none⟩ = some (.slice (some ⟨A, 0, none⟩) k k)) (d3 : w.cell? ⟨Q, 3, none⟩ = some (.slice (some ⟨B, 0, none⟩) k k)) (g1 : w.frozen? ⟨Q, 1, none⟩ = false ∧ w.frozen? ⟨Q, 2, none⟩ = false ∧ w.frozen? ⟨Q, 3, none⟩ = false) (T1 : Tbl (ia A) (ia B) k k w)
    (hRE : R ≠ E) (lR : W.heap.size ≤ R) (lE : W.heap.size ≤ E) (hAB : A ≠ B) (hAQ : A ≠ Q) (hBQ : B ≠ Q) (x1 : R < Q ∧ R < A ∧ R < B) (x2 : E < Q ∧ E < A ∧ E < B) (hb : Below W.heap.size W w) :
    Both D 0 G W E R Q A B k (sta0 lim) (sta0 lim) (fun _ => .slice none 0 0) w := by
  refine ⟨tell_cases c0 c1 c2 (fun j hj => T0.done j hj) (fun j hj => T0.lists j hj) d0 d1 d2 d3 (fun j hj => T1.done j hj) (fun j hj => T1.lists j hj) (fun j hj => absurd hj (by omega)),
    tell_cases f0 f1 f2 (fun j hj => T0.fp j hj) (fun j hj => T0.fl j hj) g0 g1.1 g1.2.1 g1.2.2 (fun j hj => T1.fp j hj) (fun j hj => T1.fl j hj) (fun j hj => absurd hj (by omega)),
    fun r hr => ?_, fun r t _ _ _ g hg => by simp [Value.ownBlock] at hg, fun i hi r hr => by simp [Value.ownBlock], ?_,
    tell_cases lE lE lE (fun j hj => lR) (fun j hj => lR) ?_ ?_ ?_ ?_ (fun j hj => ?_) (fun j hj => ?_) (fun j hj => absurd hj (by omega)), hb⟩
  · rcases r with ⟨b, j⟩
    cases b <;> exact Mid.nil _ _ _ _
  · rintro ⟨t, j⟩ ⟨t', j'⟩ ⟨a, d, b, c⟩ ⟨a', d', b', c'⟩ e
    simp only at a b c d a' b' c' d'
    rcases t with _ | _ | _ | _ | _ | _ | _ | _ | _ | _ | _ | _ | t <;> rcases t' with _ | _ | _ | _ | _ | _ | _ | _ | _ | _ | _ | _ | t' <;> simp [adx] at e <;> simp <;> omega
  all_goals first
    | (show W.heap.size ≤ Q; omega)
    | (show W.heap.size ≤ A; omega)
    | (show W.heap.size ≤ B; omega)
end
set_option maxRecDepth 100000 in
set_option maxHeartbeats 400000 in
theorem new0_bad (a l : Int) (w : World) (h : a < 1 ∨ 8 < a ∨ l < 4 ∨ 64 < l) : Calls Try.prog 7 #[.int .i64 a, .int .i64 l] w fun e w' => e = .returned (.tuple #[.pointer none, .int .i64 1]) ∧ w' = w := by
  have H : Hid (a < 1 ∨ 8 < a ∨ l < 4 ∨ 64 < l) := h
  clear h
  go_enter Try.func7, Try.ntmps7
  go_wp2_with fail
  all_goals first
    | (exfalso; have := H.out; omega)
    | (go_ret2; exact ⟨rfl, rfl⟩)
set_option maxRecDepth 100000 in
set_option maxHeartbeats 400000 in
theorem new1_bad (a l : Int) (w : World) (h : a < 1 ∨ 8 < a ∨ l < 4 ∨ 64 < l) : Calls Try.prog 15 #[.int .i64 a, .int .i64 l] w fun e w' => e = .returned (.tuple #[.pointer none, .int .i64 1]) ∧ w' = w := by
  have H : Hid (a < 1 ∨ 8 < a ∨ l < 4 ∨ 64 < l) := h
  clear h
  go_enter Try.func15, Try.ntmps15
  go_wp2_with fail
  all_goals first
    | (exfalso; have := H.out; omega)
    | (go_ret2; exact ⟨rfl, rfl⟩)
set_option maxRecDepth 100000 in
set_option maxHeartbeats 400000 in
theorem eplays_bad (a l : Int) (Ad : Option Addr) (len cap : Nat) (W : World) (h : a < 1 ∨ 8 < a ∨ l < 4 ∨ 64 < l) :
    Calls Try.prog 5 #[.int .i64 a, .int .i64 l, .slice Ad len cap] W fun e w' => e = .returned (.bool true) ∧ Below W.heap.size W w' := by
  have H := Lib.hid h
  clear h
  go_enter Try.func5, Try.ntmps5
  go_wp2_with (first
    | (go_at_call 7; refine (new0_bad a l _ H.out).mono ?_; rintro e w1 ⟨rfl, rfl⟩)
    | (go_at_call 15; refine (new1_bad a l _ H.out).mono ?_; rintro e w1 ⟨rfl, rfl⟩)
    | fail)
  go_loopw [11] (fun i wr => i = .int .i64 0 ∧ wr = w1) (fun _ _ => 0)
  case atStart => exact ⟨rfl, rfl⟩
  case round =>
    obtain ⟨rfl, rfl⟩ := hrel
    go_wp2_with (first
      | (go_at_call 14; refine (epochRuns_any _).mono ?_; rintro e w9 ⟨rfl, hb9⟩)
      | fail)
    all_goals
      go_ret
      exact ⟨rfl, hb9⟩
/-- Between rounds. -/
def Wq (W : World) (E R Q A B k j : Nat) (w : World) : Prop := ∃ s V, Both 0 0 (fun _ => 0) W E R Q A B k s s V w ∧ Sml k s ∧ s.now ≤ j
/-- Behind a call. -/
def Wr (D : Nat) (G : Nat → Int) (W : World) (E R Q A B k j : Nat) (w : World) : Prop := ∃ s V, Both D 3 G W E R Q A B k s s V w ∧ Sml k s ∧ s.now ≤ j
set_option maxRecDepth 100000 in
set_option maxHeartbeats 9600000 in
theorem eplays_ok (k : Nat) (lim : Int) (hk : 1 ≤ k) (hk9 : k ≤ 8) (hl : 4 ≤ lim) (hl9 : lim ≤ 64) (Ad : Option Addr) (len cap : Nat) (F : Nat → Nat → Int) (W : World) (hx : Recs W Ad len 3 F) :
    Calls Try.prog 5 #[.int .i64 k, .int .i64 lim, .slice Ad len cap] W fun e w' => e = .returned (.bool true) ∧ Below W.heap.size W w' := by
  go_enter Try.func5, Try.ntmps5
  go_wp2_with (first
    | (go_at_call 7; refine (new0_any k lim _ hk hk9 hl hl9).mono ?_; rintro e w1 ⟨E, R, rfl, hN⟩; have HN := Lib.hid hN; clear hN)
    | (go_at_call 15; refine (new1_any k lim _ hk hk9 hl hl9).mono ?_; rintro e w2 ⟨Q, A, B, rfl, hM⟩; have HM := Lib.hid hM; clear hM)
    | fail)
  have hQ : Wq W E R Q A B k 0 w2 := by
    obtain ⟨c0, f0, c1, c2, f1, f2, T0, hRE, lR, lE, b1⟩ := HN.out
    obtain ⟨d0, g0, d1, d2, d3, hg, T1, hAB, hAQ, hBQ, lA, lB, lQ, b2⟩ := HM.out
    have eE : E < w1.heap.size := World.block_lt_of_cell? _ _ c0
    have eR : R < w1.heap.size := World.block_lt_of_cell? _ _ (T0.lists 0 (by omega))
    refine ⟨sta0 lim, fun _ => .slice none 0 0, both_new ((b2.cell (p := ⟨E, 0, none⟩) eE).trans c0) ((b2.frozen (p := ⟨E, 0, none⟩) eE).trans f0) ((b2.cell (p := ⟨E, 1, none⟩) eE).trans c1) ((b2.cell (p := ⟨E, 2, none⟩) eE).trans c2) ((b2.frozen (p := ⟨E, 1, none⟩) eE).trans f1) ((b2.frozen (p := ⟨E, 2, none⟩) eE).trans f2)
      ⟨fun j hj => (b2.cell (p := pa0 R j) eR).trans (T0.done j hj), fun j hj => (T0.some_ j hj).imp fun u hu => (b2.cell (p := pa0 R j) eR).trans hu, fun j hj => (b2.cell (p := la0 R j) eR).trans (T0.lists j hj), fun j hj => (b2.frozen (p := pa0 R j) eR).trans (T0.fp j hj), fun j hj => (b2.frozen (p := la0 R j) eR).trans (T0.fl j hj)⟩
      d0 g0 d1 d2 d3 hg.out T1 hRE lR lE hAB hAQ hBQ ⟨by omega, by omega, by omega⟩ ⟨by omega, by omega, by omega⟩ (b1.trans (b2.mono b1.size)), ⟨by show (0 : Int) ≤ 0; omega, by show (0 : Int) ≤ 1000; omega, hl9, fun j _ p hp => by simp [sta0] at hp, fun j _ => by simp [sta0]⟩, by show (0 : Int) ≤ _; omega⟩
  have HQ := Lib.hid hQ
  clear hQ HN HM
  go_loopw [11] (fun i wr => ∃ j : Nat, i = .int .i64 j ∧ j ≤ 80 ∧ Hid (Wq W E R Q A B k j wr)) (fun i _ => 80 - (intOf i).toNat)
  case atStart => exact ⟨0, rfl, by omega, HQ⟩
  case round =>
    clear HQ
    obtain ⟨j, rfl, hj, HQ⟩ := hrel
    obtain ⟨s, V, hB, hS, hn⟩ := HQ.out
    clear HQ
    by_cases hin : j < len ∧ j < 80
    · obtain ⟨g1, g2⟩ := hin
      obtain ⟨ad, rfl, hab, hc⟩ := hx j g1
      have bel := hB.bel
      have hd0 : wr.cell? (ad.add (j * 3)) = some (.int .i64 (F j 0)) := (bel.cell (by rw [block_of_add]; exact hab)).trans (hc 0 (by omega))
      have hd1 : wr.cell? ⟨(ad.add (j * 3)).block, (ad.add (j * 3)).off + 1, none⟩ = some (.int .i64 (F j 1)) := by
        rw [← add_two_addr _ _ (by omega), add_of_add]; exact (bel.cell (by rw [block_of_add]; exact hab)).trans (hc 1 (by omega))
      have hd2 : wr.cell? ⟨(ad.add (j * 3)).block, (ad.add (j * 3)).off + 2, none⟩ = some (.int .i64 (F j 2)) := by
        rw [← add_two_addr _ _ (by omega), add_of_add]; exact (bel.cell (by rw [block_of_add]; exact hab)).trans (hc 2 (by omega))
      have hX := hB.withBox (F j) 31
      have HS := Lib.hid hS
      have HX := Lib.hid hX
      clear hc bel hB hS hX
      generalize F j = G at *
      generalize hD : wr.heap.size = D at *
      go_upto_block 2 with (fail)
      go_cut [13, 14, 15, 16, 17] from 43 to 203 (fun c4 x4 a4 y4 b4 wx => c4 = .bool true ∧ Hid (Wr D G W E R Q A B k (j + 1) wx))
      case first =>
        rcases (show G 0 = 1 ∨ G 0 = 2 ∨ G 0 = 3 ∨ G 0 = 4 ∨ G 0 = 5 ∨ G 0 = 6 ∨ (¬ G 0 = 1 ∧ ¬ G 0 = 2 ∧ ¬ G 0 = 3 ∧ ¬ G 0 = 4 ∧ ¬ G 0 = 5 ∧ ¬ G 0 = 6) by omega) with hk | hk | hk | hk | hk | hk | hk
        · have h0 := HX.out.drew
          rw [hk] at h0
          have k1 := HX.out.box (j := 1) (by omega)
          have k2 := HX.out.box (j := 2) (by omega)
          go_wp2
          go_region_held3 (fun w' => w'.cell? ⟨D, 1, none⟩ = some (.int .i64 (G 1)) ∧ w'.cell? ⟨D, 2, none⟩ = some (.int .i64 (G 2))) (first | (go_keep; done) | exact ⟨h2.box (j := 1) (by omega), h2.box (j := 2) (by omega)⟩ | exact ⟨h1.box (j := 1) (by omega), h1.box (j := 2) (by omega)⟩ | exact ⟨h0.box (j := 1) (by omega), h0.box (j := 2) (by omega)⟩)
            (first
              | (go_at_call 16; refine (pin_any h0 (G 1) (G 2)).mono ?_; rintro e w3 ⟨rfl, h1⟩)
              | (go_at_call 17; refine (rpin_any h1 (G 1) (G 2)).mono ?_; rintro e w4 ⟨rfl, h2⟩))
          all_goals
            have HW : Hid (Wr D G W E R Q A B k (j + 1) _) := Lib.hid ⟨_, _, h2, (nx_pin HS.out (G 1) (G 2)).1 (by omega), by have := (nx_pin HS.out (G 1) (G 2)).2; omega⟩
            clear h1 h2
            go_wp2
            go_meet
            exact ⟨rfl, HW⟩
        · have h0 := HX.out.drew
          rw [hk] at h0
          have k1 := HX.out.box (j := 1) (by omega)
          have k2 := HX.out.box (j := 2) (by omega)
          go_wp2
          go_region_held3 (fun w' => w'.cell? ⟨D, 1, none⟩ = some (.int .i64 (G 1))) (first | (go_keep; done) | exact h2.box (j := 1) (by omega) | exact h1.box (j := 1) (by omega) | exact h0.box (j := 1) (by omega))
            (first
              | (go_at_call 18; refine (unpin_any h0 (G 1)).mono ?_; rintro e w3 ⟨rfl, h1⟩)
              | (go_at_call 19; refine (runpin_any h1 (G 1)).mono ?_; rintro e w4 ⟨rfl, h2⟩))
          all_goals
            have HW : Hid (Wr D G W E R Q A B k (j + 1) _) := Lib.hid ⟨_, _, h2, (nx_unp HS.out (G 1)).1 (by omega), by have := (nx_unp HS.out (G 1)).2; omega⟩
            clear h1 h2
            go_wp2
            go_meet
            exact ⟨rfl, HW⟩
        · have h0 := HX.out.drew
          rw [hk] at h0
          have k1 := HX.out.box (j := 1) (by omega)
          have k2 := HX.out.box (j := 2) (by omega)
          go_wp2
          go_region_held3 (fun w' => w'.cell? ⟨D, 2, none⟩ = some (.int .i64 (G 2))) (first | (go_keep; done) | exact h2.box (j := 2) (by omega) | exact h1.box (j := 2) (by omega) | exact h0.box (j := 2) (by omega))
            (first
              | (go_at_call 10; refine (adv_any h0 HS.out (G 2)).mono ?_; rintro e w3 ⟨rfl, h1⟩)
              | (go_at_call 20; refine (radv_any h1 HS.out (G 2)).mono ?_; rintro e w4 ⟨rfl, h2⟩))
          all_goals
            have HW : Hid (Wr D G W E R Q A B k (j + 1) _) := Lib.hid ⟨_, _, h2, (nx_adv HS.out (G 2)).1 (by omega), by have := (nx_adv HS.out (G 2)).2; omega⟩
            clear h1 h2
            go_wp2
            go_meet
            exact ⟨rfl, HW⟩
        · have h0 := HX.out.drew
          rw [hk] at h0
          have k1 := HX.out.box (j := 1) (by omega)
          have k2 := HX.out.box (j := 2) (by omega)
          go_wp2
          go_region_held3 (fun w' => w'.cell? ⟨D, 1, none⟩ = some (.int .i64 (G 1)) ∧ w'.cell? ⟨D, 2, none⟩ = some (.int .i64 (G 2))) (first | (go_keep; done) | exact ⟨h2.box (j := 1) (by omega), h2.box (j := 2) (by omega)⟩ | exact ⟨h1.box (j := 1) (by omega), h1.box (j := 2) (by omega)⟩ | exact ⟨h0.box (j := 1) (by omega), h0.box (j := 2) (by omega)⟩)
            (first
              | (go_at_call 8; refine (retire_any h0 HS.out (G 1) (G 2)).mono ?_; rintro e w3 ⟨rfl, V1, h1⟩)
              | (go_at_call 21; refine (rretire_any h1 HS.out (G 1) (G 2)).mono ?_; rintro e w4 ⟨rfl, V2, h2⟩))
          all_goals
            have HW : Hid (Wr D G W E R Q A B k (j + 1) _) := Lib.hid ⟨_, _, h2, (nx_ret HS.out (G 1) (G 2)).1 (by omega), by have := (nx_ret HS.out (G 1) (G 2)).2; omega⟩
            clear h1 h2
            go_wp2
            go_meet
            exact ⟨rfl, HW⟩
        · have h0 := HX.out.drew
          rw [hk] at h0
          have k1 := HX.out.box (j := 1) (by omega)
          have k2 := HX.out.box (j := 2) (by omega)
          have HG : Hid (∃ (x : Int) (b : Bool), colR (colO k s (G 1)) = .tuple #[.int .i64 x, .bool b]) := Lib.hid ⟨_, _, rfl⟩
          obtain ⟨x, b, hxb⟩ := HG.out
          have HXB := Lib.hid hxb
          have h00 := HX.out
          rw [hk] at h00
          clear hxb HG h0
          go_wp2_with (first
            | (go_at_call 12; refine (col_any h00 HS.out (G 1)).mono ?_; rintro e w3 ⟨rfl, V1, h1⟩; rw [HXB.out]; have k9 := h1.box (j := 1) (by omega))
            | (go_at_call 22; refine (rcol_any h1 HS.out (G 1)).mono ?_; rintro e w4 ⟨rfl, V2, h2⟩; rw [HXB.out])
            | fail)
          have HW : Hid (Wr D G W E R Q A B k (j + 1) _) := Lib.hid ⟨_, _, h2, (nx_col HS.out (G 1)).1 (by omega), by have := (nx_col HS.out (G 1)).2; omega⟩
          clear h1 h2 h00 k9
          go_meet
          exact ⟨rfl, HW⟩
        · have h0 := HX.out.drew
          rw [hk] at h0
          have k1 := HX.out.box (j := 1) (by omega)
          have k2 := HX.out.box (j := 2) (by omega)
          go_wp2
          have hS := h0.c5.1
          refine wp_region_T (fun w' => w'.cell? ⟨Q, 0, none⟩ = some (.int .i64 s.now)) 11 (by kernel_rfl) ?_
          refine wpAnyT_take (i := 0) (oi := _) (v := ?_) (by rfl) (by kernel_rfl) (by intro _ _ _ h; exact h) hS (Or.inl ⟨by rfl, ?_⟩) ?_
          rotate_left 1
          · intro w' hS'
            go_simp
            all_goals with_reducible rfl
          simp only [Act.put, List.setIfInBounds_toArray, List.set_cons_zero, List.set_cons_succ]
          refine wpAnyT_take (i := 1) (oi := _) (v := ?_) (by rfl) (by kernel_rfl) (by intro _ _ _ h; exact h) hS (Or.inl ⟨by rfl, ?_⟩) ?_
          rotate_left 1
          · intro w' hS'
            go_simp
            all_goals with_reducible rfl
          simp only [Act.put, List.setIfInBounds_toArray, List.set_cons_zero, List.set_cons_succ]
          refine wpAnyT_take (i := 2) (oi := _) (v := ?_) (by rfl) (by kernel_rfl) (by intro _ _ _ h; exact h) hS (Or.inl ⟨by rfl, ?_⟩) ?_
          rotate_left 1
          · intro w' hS'
            go_simp
            all_goals with_reducible rfl
          simp only [Act.put, List.setIfInBounds_toArray, List.set_cons_zero, List.set_cons_succ]
          refine wpAnyT_take (i := 3) (oi := _) (v := ?_) (by rfl) (by kernel_rfl) (by intro _ _ _ h; exact h) hS (Or.inl ⟨by rfl, ?_⟩) ?_
          rotate_left 1
          · intro w' hS'
            go_simp
            all_goals with_reducible rfl
          simp only [Act.put, List.setIfInBounds_toArray, List.set_cons_zero, List.set_cons_succ]
          refine wpAnyT_take (i := 4) (oi := _) (v := ?_) (by rfl) (by kernel_rfl) (by intro _ _ _ h; exact h) hS (Or.inl ⟨by rfl, ?_⟩) ?_
          rotate_left 1
          · intro w' hS'
            go_simp
            all_goals with_reducible rfl
          simp only [Act.put, List.setIfInBounds_toArray, List.set_cons_zero, List.set_cons_succ]
          refine wpAnyT_take (i := 6) (oi := _) (v := ?_) (by rfl) (by kernel_rfl) (by intro _ _ _ h; exact h) hS (Or.inl ⟨by rfl, ?_⟩) ?_
          rotate_left 1
          · intro w' hS'
            go_simp
            all_goals with_reducible rfl
          simp only [Act.put, List.setIfInBounds_toArray, List.set_cons_zero, List.set_cons_succ]
          refine wpAnyT_take (i := 7) (oi := _) (v := ?_) (by rfl) (by kernel_rfl) (by intro _ _ _ h; exact h) hS (Or.inl ⟨by rfl, ?_⟩) ?_
          rotate_left 1
          · intro w' hS'
            go_simp
            all_goals with_reducible rfl
          simp only [Act.put, List.setIfInBounds_toArray, List.set_cons_zero, List.set_cons_succ]
          refine wpAnyT_take (i := 8) (oi := _) (v := ?_) (by rfl) (by kernel_rfl) (by intro _ _ _ h; exact h) hS (Or.inl ⟨by rfl, ?_⟩) ?_
          rotate_left 1
          · intro w' hS'
            go_simp
            all_goals with_reducible rfl
          simp only [Act.put, List.setIfInBounds_toArray, List.set_cons_zero, List.set_cons_succ]
          refine wpAnyT_take (i := 9) (oi := _) (v := ?_) (by rfl) (by kernel_rfl) (by intro _ _ _ h; exact h) hS (Or.inl ⟨by rfl, ?_⟩) ?_
          rotate_left 1
          · intro w' hS'
            go_simp
            all_goals with_reducible rfl
          simp only [Act.put, List.setIfInBounds_toArray, List.set_cons_zero, List.set_cons_succ]
          refine wpAnyT_take (i := 10) (oi := _) (v := ?_) (by rfl) (by kernel_rfl) (by intro _ _ _ h; exact h) hS (Or.inl ⟨by rfl, ?_⟩) ?_
          rotate_left 1
          · intro w' hS'
            go_simp
            all_goals with_reducible rfl
          simp only [Act.put, List.setIfInBounds_toArray, List.set_cons_zero, List.set_cons_succ]
          refine wpAnyT_all (rs := [5]) (by kernel_rfl) (by simp) ?_
          intro ix hix
          simp only [List.mem_cons, List.not_mem_nil, or_false] at hix
          subst hix
          refine wpT_op (o := _) (by rfl) (fun K hK => ?_)
          go_simp
          go_at_call 10
          refine (adv_any h0 HS.out s.now).mono ?_
          rintro e w3 ⟨rfl, h1⟩
          refine hK _ _ (fun _ => h1.c5.1) ?_
          clear hK K
          try simp only [Act.put, List.setIfInBounds_toArray, List.set_cons_zero, List.set_cons_succ]
          refine wpAnyT_all (rs := [11]) (by kernel_rfl) (by simp) ?_
          intro ix hix
          simp only [List.mem_cons, List.not_mem_nil, or_false] at hix
          subst hix
          refine wpT_op (o := _) (by rfl) (fun K hK => ?_)
          go_simp
          go_at_call 20
          refine (radv_any h1 HS.out s.now).mono ?_
          rintro e w4 ⟨rfl, h2⟩
          refine hK _ _ (fun h => absurd h (by omega)) ?_
          clear hK K
          try simp only [Act.put, List.setIfInBounds_toArray, List.set_cons_zero, List.set_cons_succ]
          refine wpAnyT_all (rs := [12]) (by kernel_rfl) (by simp) ?_
          intro ix hix
          simp only [List.mem_cons, List.not_mem_nil, or_false] at hix
          subst hix
          refine wpT_op (o := _) (by rfl) (fun K hK => ?_)
          go_simp
          refine hK _ _ (fun h => absurd h (by omega)) ?_
          clear hK K
          try simp only [Act.put, List.setIfInBounds_toArray, List.set_cons_zero, List.set_cons_succ]
          refine wpAnyT_all (rs := [13]) (by kernel_rfl) (by simp) ?_
          intro ix hix
          simp only [List.mem_cons, List.not_mem_nil, or_false] at hix
          subst hix
          refine wpT_op (o := _) (by rfl) (fun K hK => ?_)
          try go_simp
          refine hK _ _ (fun h => absurd h (by omega)) ?_
          clear hK K
          refine wpAnyT_done (by kernel_rfl) ?_ _
          have HW : Hid (Wr D G W E R Q A B k (j + 1) _) := Lib.hid ⟨_, _, h2, (nx_adv HS.out s.now).1 (by omega), by have := (nx_adv HS.out s.now).2; omega⟩
          clear h1 h2 hS
          go_wp2
          go_meet
          exact ⟨rfl, HW⟩
        · have h0 := HX.out.drew
          skip
          have k1 := HX.out.box (j := 1) (by omega)
          have k2 := HX.out.box (j := 2) (by omega)
          have e1 : (G 0 == 1) = false := by simpa using hk.1
          have e2 : (G 0 == 2) = false := by simpa using hk.2.1
          have e3 : (G 0 == 3) = false := by simpa using hk.2.2.1
          have e4 : (G 0 == 4) = false := by simpa using hk.2.2.2.1
          have e5 : (G 0 == 5) = false := by simpa using hk.2.2.2.2.1
          have e6 : (G 0 == 6) = false := by simpa using hk.2.2.2.2.2
          clear hk h0
          go_wp2
          have HW : Hid (Wr D G W E R Q A B k (j + 1) _) := Lib.hid ⟨_, _, HX.out, HS.out, by omega⟩
          go_meet
          exact ⟨rfl, HW⟩
      case rest =>
        obtain ⟨rfl, HW⟩ := hcut
        obtain ⟨s', V', hB', hS', hn'⟩ := HW.out
        have HB' := Lib.hid hB'
        have HW2 := HW
        have q7 := hB'.c5.1
        have q8 := hB'.c7
        have q9 := hB'.c8
        generalize hnw : s'.now = nw at q7
        have HNW := Lib.hid hnw
        have HSn := Lib.hid (And.intro hS' hn')
        clear HW hB' hS' hn' hnw
        try go_wp2
        have hne : (nw != nw) = false := by simp
        have HC : Hid (∀ n, Calls Try.prog 11 #[.pointer (some ⟨E, 0, none⟩)] (World.drewN _ n) fun e w' => e = .returned (.int .i64 nw) ∧ w' = World.drewN _ n) := Lib.hid (fun n => by have h8 := now_any (HB'.out.below (below_drewN _ n)); rw [HNW.out] at h8; exact h8)
        go_quiet ((go_at_call 11; exact Calls.quiet_of_same (HC.out _)))
        have HW3 := Lib.hid (HB'.out.below (below_drewN _ nq))
        clear hne q7
        go_wp2
        go_loopw [18] (fun i wr => ∃ c : Int, i = .int .i64 c ∧ -1 ≤ c ∧ c ≤ k + 1 ∧ Hid (Both D 3 G W E R Q A B k s' s' V' wr)) (fun i _ => (k + 1 - intOf i).toNat)
        case atStart => exact ⟨-1, rfl, by omega, by omega, HW3⟩
        case round =>
          clear q8 q9 HW3
          obtain ⟨c, rfl, hc0, hc9, HY⟩ := hrel
          have b7 := HY.out.c7
          by_cases hck : c ≤ (k : Int)
          · rcases inK_or k c with ⟨i, rfl, hi⟩ | hno
            · have b8 := HY.out.c8
              have b9 := (HY.out.c9 hi).1
              have b10 := (HY.out.c10 hi).1
              obtain ⟨Av, cv, eV⟩ := (HY.out.row1 hi).form
              rw [eV] at b10
              have HP : Hid (pinV k s' (i : Int) = s'.pin i) := Lib.hid (by unfold pinV; rw [if_pos (inK_yes hi), Int.toNat_natCast])
              have HL : Hid (limV k s' (i : Int) = (s'.wt i).length) := Lib.hid (by unfold limV; rw [if_pos (inK_yes hi), Int.toNat_natCast])
              clear eV
              generalize s'.pin i = pi at *
              generalize (s'.wt i).length = ln at *
              have hi1 : (i : Int) < k := by omega
              have hi0 : (0 : Int) ≤ i := by omega
              have hi2 : i ≤ k := by omega
              have hi3 : i < 9 := by omega
              go_wp2_with (first
                | (go_at_call 23; refine (cli_yes HY.out i hi).mono ?_; rintro e w5 ⟨rfl, rfl⟩)
                | fail)
              go_quiet (fail)
              have HY2 := Lib.hid (HY.out.below (below_drewN _ nq))
              go_wp2_with (first
                | (go_at_call 24; refine (pinOf_any HY2.out _).mono ?_; rintro e w6 ⟨rfl, rfl⟩; rw [HP.out])
                | (go_at_call 13; refine (limbo_any HY2.out _).mono ?_; rintro e w7 ⟨rfl, rfl⟩; rw [HL.out])
                | fail)
              go_roundw
              case rel => exact ⟨(i : Int) + 1, by first | rfl | go_num, by omega, by omega, HY2⟩
              case measure => simp only [intOf]; omega
            · have HP : Hid (pinV k s' c = -1) := Lib.hid (by unfold pinV; rw [inK_no hno]; rfl)
              have HL : Hid (limV k s' c = 0) := Lib.hid (by unfold limV; rw [inK_no hno]; rfl)
              have HN := Lib.hid hno
              clear hno
              have hc8 : c ≤ 9 := by omega
              go_wp2_with (first
                | (go_at_call 23; refine (cli_no HY.out c HN.out).mono ?_; rintro e w5 ⟨rfl, rfl⟩)
                | (go_at_call 24; refine (pinOf_any HY.out _).mono ?_; rintro e w6 ⟨rfl, rfl⟩; rw [HP.out])
                | (go_at_call 13; refine (limbo_any HY.out _).mono ?_; rintro e w7 ⟨rfl, rfl⟩; rw [HL.out])
                | fail)
              go_roundw
              case rel => exact ⟨c + 1, by first | rfl | go_num, by omega, by omega, HY⟩
              case measure => simp only [intOf]; omega
          · go_wp2
            go_roundw
            case rel => exact ⟨j + 1, by go_num, by omega, Lib.hid ⟨s', V', HY.out.noBox, HSn.out.1, HSn.out.2⟩⟩
            case measure => simp only [intOf]; omega
    · have HI := Lib.hid hin
      have HB := Lib.hid hB.bel
      clear hin hB hS hn
      go_wp2_with (first
        | (go_at_call 14; refine (epochRuns_any _).mono ?_; rintro e w9 ⟨rfl, hb9⟩)
        | fail)
      all_goals first
        | (exfalso; have := HI.out; omega)
        | (go_ret; exact ⟨rfl, HB.out.trans (hb9.mono HB.out.size)⟩)
theorem eplays_any (a l : Int) (Ad : Option Addr) (len cap : Nat) (F : Nat → Nat → Int) (W : World) (hx : Recs W Ad len 3 F) :
    Calls Try.prog 5 #[.int .i64 a, .int .i64 l, .slice Ad len cap] W fun e w' => e = .returned (.bool true) ∧ Below W.heap.size W w' := by
  by_cases h : a < 1 ∨ 8 < a ∨ l < 4 ∨ 64 < l
  · exact eplays_bad a l Ad len cap W h
  · obtain ⟨k, rfl⟩ := Int.eq_ofNat_of_zero_le (show 0 ≤ a by omega)
    exact eplays_ok k l (by omega) (by omega) (by omega) (by omega) Ad len cap F W hx
end Go.Proofs.Ytafedpphecfgnaa
