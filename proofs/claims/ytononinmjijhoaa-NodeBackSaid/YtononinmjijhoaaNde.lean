/-
  slices.Index at bytes, node.Find; nodes in boxes of the caller's own; With whatever is there; conditions: lengths.
-/
import Derived.Test.YtononinmjijhoaaNdc
import Derived.Test.YtononinmjijhoaaNd7
import Derived.Test.YtononinmjijhoaaRuns
namespace Go.Proofs.Ytononinmjijhoaa
open Go.RowKit Go.WideShapes Go.ChangeShapes
set_option linter.all false
/-- Where b stands in xs: the first place, or the length. -/
def posN (b : Int) : List Int → Nat
  | [] => 0
  | x :: l => if x = b then 0 else posN b l + 1
theorem pos_le (b : Int) : ∀ l : List Int, posN b l ≤ l.length
  | [] => Nat.le_refl _
  | x :: l => by unfold posN; split; simp; simpa using pos_le b l
theorem pos_is (b : Int) : ∀ (l : List Int) (k : Nat), k ≤ l.length → (∀ i, i < k → l.getD i 0 ≠ b) → (k < l.length → l.getD k 0 = b) → posN b l = k
  | [], k, hk, _, _ => by simp at hk; subst hk; rfl
  | e :: l, 0, _, _, h => by
    have := h (by simp)
    simp only [List.getD_cons_zero] at this
    unfold posN; rw [if_pos this]
  | e :: l, k + 1, hk, h, g => by
    have h0 := h 0 (by omega)
    simp only [List.getD_cons_zero] at h0
    unfold posN
    rw [if_neg h0, pos_is b l k (by simpa using hk) (fun i hi => by simpa using h (i + 1) (by omega)) (fun q => by simpa using g (by simpa using q))]
theorem pos_at (b : Int) : ∀ l : List Int, posN b l < l.length → l.getD (posN b l) 0 = b
  | [], h => by simp [posN] at h
  | x :: l, h => by
    unfold posN at h ⊢
    split
    · simpa
    · rename_i hx
      rw [if_neg hx] at h
      simpa using pos_at b l (by simpa using h)
theorem pos_mem (b : Int) : ∀ l : List Int, posN b l < l.length ↔ b ∈ l
  | [] => by simp [posN]
  | x :: l => by
    unfold posN
    by_cases h : x = b
    · rw [if_pos h]; simp [h]
    · rw [if_neg h]
      have := pos_mem b l
      simp only [List.length_cons, List.mem_cons]
      constructor
      · intro k; exact .inr (this.1 (by omega))
      · rintro (k | k)
        · exact absurd k.symm h
        · have := this.2 k; omega
def idxI (b : Int) (xs : List Int) : Int := if posN b xs < xs.length then (posN b xs : Int) else -1
set_option maxRecDepth 100000 in
set_option maxHeartbeats 1600000 in
theorem idx_any (A : Option Addr) (n c : Nat) (xs : List Int) (b : Int) (w : World) (B : Nat) (hx : Reads w B 1 A n (xs.map (Value.int .u8))) (hn : n ≤ 300) :
    Calls Try.prog 28 #[.slice A n c, .int .u8 b] w fun e w' => e = .returned (.int .i64 (idxI b xs)) ∧ w' = w := by
  have LX : Hid (xs.length = n) := Lib.hid (klen hx)
  go_enter Try.func28, Try.ntmps28
  go_wp2
  go_loopw [8] (fun i wr => wr = w ∧ ∃ k : Nat, k ≤ n ∧ i = .int .i64 k ∧ Hid (∀ i, i < k → xs.getD i 0 ≠ b)) (fun i _ => n - (intOf i).toNat)
  case atStart => exact ⟨rfl, 0, Nat.zero_le _, rfl, Lib.hid (fun i hi => absurd hi (by omega))⟩
  case round =>
    obtain ⟨rfl, k, hk, rfl, HT⟩ := hrel
    by_cases hlt : k < n
    · obtain ⟨ad, rfl, _, g0⟩ := kget hx hlt
      obtain ⟨x, hx2⟩ : ∃ x, x = xs.getD k 0 := ⟨_, rfl⟩
      rw [← hx2] at g0
      have HX := Lib.hid hx2
      clear hx2
      have hk1 : (k : Int) < n := by omega
      by_cases hb : b = x
      · have HE : Hid (idxI b xs = (k : Int)) := Lib.hid (by
          have h := pos_is b xs k (by rw [LX.out]; exact hk) HT.out (fun _ => by rw [← HX.out]; exact hb.symm)
          unfold idxI; rw [h, LX.out, if_pos hlt])
        have hb1 : (b == x) = true := by simpa using hb
        clear hb
        go_wp2
        go_ret
        exact ⟨by show Ending.returned (Value.int .i64 (k : Int)) = _; rw [HE.out], rfl⟩
      · have HT2 : Hid (∀ i, i < k + 1 → xs.getD i 0 ≠ b) := Lib.hid (fun i hi => by
          rcases Nat.lt_or_ge i k with q | q
          · exact HT.out i q
          · obtain rfl : i = k := by omega
            rw [← HX.out]; exact fun e => hb e.symm)
        have hb1 : (b == x) = false := by simpa using hb
        clear hb
        go_wp2
        go_roundw
        case rel => exact ⟨trivial, k + 1, by omega, by go_num, HT2⟩
        case measure => simp only [intOf]; omega
    · have HE : Hid (idxI b xs = -1) := Lib.hid (by
        have h := pos_is b xs k (by rw [LX.out]; exact hk) HT.out (fun q => by rw [LX.out] at q; omega)
        unfold idxI; rw [h, LX.out, if_neg hlt])
      have hk1 : ¬ (k : Int) < n := by omega
      go_wp2
      go_ret
      exact ⟨by show Ending.returned (Value.int .i64 (-1)) = _; rw [HE.out], rfl⟩
/-- What Find says. -/
def fndV (b : Int) (xs ys : List Int) : Int := if posN b xs < xs.length then ys.getD (posN b xs) 0 else 0
def fndB (b : Int) (xs : List Int) : Bool := decide (posN b xs < xs.length)
set_option maxRecDepth 100000 in
set_option maxHeartbeats 1600000 in
theorem find_any (kd wd : Int) (pf : ByteArray) (A : Option Addr) (c : Nat) (A' : Option Addr) (c' n : Nat) (xs ys : List Int) (b : Int) (w : World) (hn : n ≤ 300)
    (hx : Reads w w.heap.size 1 A n (xs.map (Value.int .u8))) (hy : Reads w w.heap.size 1 A' n (ys.map (Value.int .i64))) :
    Calls Try.prog 18 #[nodeV kd wd pf A c A' c' n, .int .u8 b] w fun e w' => e = .returned (.tuple #[.int .i64 (fndV b xs ys), .bool (fndB b xs)]) ∧ Below w.heap.size w w' := by
  obtain ⟨wb, hwb⟩ : ∃ wb, w.alloc (.cells #[.int .i64 kd, .int .u64 wd, .string pf, .slice A n c, .slice A' n c'] 28) = wb := ⟨_, rfl⟩
  have HBW : Hid (Below w.heap.size w wb) := Lib.hid (by rw [← hwb]; exact (Below.refl _ _).alloc (Nat.le_refl _) _)
  have b0 : wb.heap[w.heap.size]? = some (.cells #[.int .i64 kd, .int .u64 wd, .string pf, .slice A n c, .slice A' n c'] 28 (0, 0)) := by rw [← hwb]; exact heap_alloc_new _ _
  have p3 := cell_of b0 3
  have p4 := cell_of b0 4
  have HX : Hid (Reads wb w.heap.size 1 A n (xs.map (Value.int .u8))) := Lib.hid (hx.below HBW.out)
  have HY : Hid (Reads wb w.heap.size 1 A' n (ys.map (Value.int .i64))) := Lib.hid (hy.below HBW.out)
  have LX : Hid (xs.length = n) := Lib.hid (klen hx)
  have HW := Lib.hid hwb
  clear hx hy b0 hwb
  unfold nodeV
  go_enter Try.func18, Try.ntmps18
  by_cases hb : posN b xs < xs.length
  · have HI : Hid (idxI b xs = (posN b xs : Int)) := Lib.hid (by unfold idxI; rw [if_pos hb])
    have HV : Hid (fndV b xs ys = ys.getD (posN b xs) 0) := Lib.hid (by unfold fndV; rw [if_pos hb])
    have HB : Hid (fndB b xs = true) := Lib.hid (by unfold fndB; simpa using hb)
    generalize posN b xs = k at *
    have hk : k < n := by rw [LX.out] at hb; exact hb
    obtain ⟨ad, e, _, g0⟩ := kget HY.out hk
    subst e
    obtain ⟨y, hy2⟩ : ∃ y, y = ys.getD k 0 := ⟨_, rfl⟩
    rw [← hy2] at g0 HV
    clear hb hy2
    have hk1 : (k : Int) < n := by omega
    have hk2 : ¬ (k : Int) < 0 := by omega
    have hk3 : ¬ (k : Int) ≥ n := by omega
    go_wp2_with (first
      | (rw [HW.out]; go_at_call 28; refine (idx_any A n c xs b _ w.heap.size HX.out hn).mono ?_; rintro e w' ⟨rfl, hw'⟩; replace hw' := hw'.symm; subst hw'; rw [HI.out])
      | (go_at_call 28; refine (idx_any A n c xs b _ w.heap.size HX.out hn).mono ?_; rintro e w' ⟨rfl, hw'⟩; replace hw' := hw'.symm; subst hw'; rw [HI.out])
      | fail)
    go_ret2
    exact ⟨by show Ending.returned (.tuple #[.int .i64 y, .bool true]) = _; rw [HV.out, HB.out], HBW.out⟩
  · have HI : Hid (idxI b xs = -1) := Lib.hid (by unfold idxI; rw [if_neg hb])
    have HV : Hid (fndV b xs ys = 0) := Lib.hid (by unfold fndV; rw [if_neg hb])
    have HB : Hid (fndB b xs = false) := Lib.hid (by unfold fndB; simpa using hb)
    clear hb
    go_wp2_with (first
      | (rw [HW.out]; go_at_call 28; refine (idx_any A n c xs b _ w.heap.size HX.out hn).mono ?_; rintro e w' ⟨rfl, hw'⟩; replace hw' := hw'.symm; subst hw'; rw [HI.out])
      | (go_at_call 28; refine (idx_any A n c xs b _ w.heap.size HX.out hn).mono ?_; rintro e w' ⟨rfl, hw'⟩; replace hw' := hw'.symm; subst hw'; rw [HI.out])
      | fail)
    go_ret2
    exact ⟨by show Ending.returned (.tuple #[.int .i64 0, .bool false]) = _; rw [HV.out, HB.out], HBW.out⟩
/-- A node by value in the box at block q, with rows of the call's own above B. -/
structure NX (B q : Nat) (kd wd : Int) (pf : ByteArray) (A : Option Addr) (c : Nat) (A' : Option Addr) (c' n : Nat) (xs ys : List Int) (w : World) : Prop where
  far : B ≤ q
  box : w.heap[q]? = some (.cells #[.int .i64 kd, .int .u64 wd, .string pf, .slice A n c, .slice A' n c'] 28 (0, 0))
  x : Mid w B 5 1 (.slice A n c) n (xs.map (Value.int .u8))
  y : Mid w B 3 1 (.slice A' n c') n (ys.map (Value.int .i64))
theorem lt_of_heap {w : World} {b : Nat} {o : Obj} (h : w.heap[b]? = some o) : b < w.heap.size := by
  rcases Nat.lt_or_ge b w.heap.size with q | q
  · exact q
  · rw [Array.getElem?_eq_none q] at h; cases h
theorem NX.keep {B q c c' n : Nat} {kd wd : Int} {pf : ByteArray} {A A' : Option Addr} {xs ys : List Int} {w w' : World} (h : NX B q kd wd pf A c A' c' n xs ys w) (k : Below w.heap.size w w') : NX B q kd wd pf A c A' c' n xs ys w' :=
  ⟨h.far, (heap_below k (lt_of_heap h.box)).trans h.box, h.x.same fun g hg => heap_below k (h.x.lt g hg).2, h.y.same fun g hg => heap_below k (h.y.lt g hg).2⟩
/-- A box's five cells written anew. -/
def put5 (w : World) (b : Nat) (kd wd : Int) (pf : ByteArray) (G : Option Addr) (g : Nat) (G' : Option Addr) (g' m : Nat) : World :=
  ((((w.setCell ⟨b, 0, none⟩ (.int .i64 kd)).setCell ⟨b, 1, none⟩ (.int .u64 wd)).setCell ⟨b, 2, none⟩ (.string pf)).setCell ⟨b, 3, none⟩ (.slice G m g)).setCell ⟨b, 4, none⟩ (.slice G' m g')
theorem put5_self {w : World} {b g g' m : Nat} {kd wd : Int} {pf : ByteArray} {G G' : Option Addr} {a0 a1 a2 a3 a4 : Value} (h : w.heap[b]? = some (.cells #[a0, a1, a2, a3, a4] 28 (0, 0))) : (put5 w b kd wd pf G g G' g' m).heap[b]? = some (.cells #[.int .i64 kd, .int .u64 wd, .string pf, .slice G m g, .slice G' m g'] 28 (0, 0)) :=
  heap_setCell_same _ _ 4 _ _ (.slice G' m g') (heap_setCell_same _ _ 3 _ _ (.slice G m g) (heap_setCell_same _ _ 2 _ _ (.string pf) (heap_setCell_same _ _ 1 _ _ (.int .u64 wd) (heap_setCell_same _ _ 0 _ _ (.int .i64 kd) h))))
theorem put5_far {w : World} {b g g' m k : Nat} {kd wd : Int} {pf : ByteArray} {G G' : Option Addr} (h : k ≠ b) : (put5 w b kd wd pf G g G' g' m).heap[k]? = w.heap[k]? := by
  unfold put5
  refine heap_far ?_ (heap_far ?_ (heap_far ?_ (heap_far ?_ (heap_far ?_ rfl)))) <;> exact h
theorem put5_below {W w : World} {B b g g' m : Nat} {kd wd : Int} {pf : ByteArray} {G G' : Option Addr} (h : Below B W w) (hb : B ≤ b) : Below B W (put5 w b kd wd pf G g G' g' m) := by
  unfold put5
  exact ((((h.setCell (p := ⟨b, 0, none⟩) hb _).setCell (p := ⟨b, 1, none⟩) hb _).setCell (p := ⟨b, 2, none⟩) hb _).setCell (p := ⟨b, 3, none⟩) hb _).setCell (p := ⟨b, 4, none⟩) hb _
/-- A row's own block is no box. -/
theorem Mid.nobox {w : World} {B n q : Nat} {t : TypeId} {v : Value} {xs : List Value} {cs : Array Value} {fr : Nat × Nat} (h : Mid w B t 1 v n xs) (hq : w.heap[q]? = some (.cells cs 28 fr)) (ht : t ≠ 28) {g : Nat} (hg : v.ownBlock = some g) : g ≠ q := by
  rintro rfl
  rcases h.2 with ⟨rfl, _⟩ | ⟨g', off, cap, cur, rfl, _, hh, _⟩
  · cases hg
  · have e : g' = g := by simpa [Value.ownBlock] using hg
    subst e
    rw [hh] at hq
    simp only [Option.some.injEq, Obj.cells.injEq] at hq
    exact ht hq.2.1
/-- A call's own node laid into a box that was. -/
theorem NX.put {B q q' c c' n m g g' : Nat} {kd wd kd' wd' : Int} {pf pf' : ByteArray} {A A' G G' : Option Addr} {xs ys zs ks : List Int} {w : World} (h : NX B q kd wd pf A c A' c' n xs ys w) (k : NX B q' kd' wd' pf' G g G' g' m zs ks w) :
    NX B q kd' wd' pf' G g G' g' m zs ks (put5 w q kd' wd' pf' G g G' g' m) :=
  ⟨h.far, put5_self h.box, k.x.same fun j hj => put5_far (k.x.nobox h.box (by decide) hj), k.y.same fun j hj => put5_far (k.y.nobox h.box (by decide) hj)⟩
theorem NX.aside {B q q' c c' n m g g' : Nat} {kd wd kd' wd' : Int} {pf pf' : ByteArray} {A A' G G' : Option Addr} {xs ys : List Int} {w : World} {cs : Array Value} (h : NX B q kd wd pf A c A' c' n xs ys w) (hq : q ≠ q') (hb : w.heap[q']? = some (.cells cs 28 (0, 0))) :
    NX B q kd wd pf A c A' c' n xs ys (put5 w q' kd' wd' pf' G g G' g' m) :=
  ⟨h.far, (put5_far hq).trans h.box, h.x.same fun j hj => put5_far (h.x.nobox hb (by decide) hj), h.y.same fun j hj => put5_far (h.y.nobox hb (by decide) hj)⟩
/-- A node that a call brought back, in a new box. -/
theorem NX.new {B S c c' n : Nat} {kd wd : Int} {pf : ByteArray} {A A' : Option Addr} {xs ys : List Int} {w : World} (hB : B ≤ S) (hS : S ≤ w.heap.size) (hx : Mid w S 5 1 (.slice A n c) n (xs.map (Value.int .u8))) (hy : Mid w S 3 1 (.slice A' n c') n (ys.map (Value.int .i64))) :
    NX B w.heap.size kd wd pf A c A' c' n xs ys (w.alloc (.cells #[.int .i64 kd, .int .u64 wd, .string pf, .slice A n c, .slice A' n c'] 28)) :=
  ⟨by omega, heap_alloc_new _ _, (hx.lower hB).same fun k hk => heap_alloc_old _ _ (hx.lt k hk).2, (hy.lower hB).same fun k hk => heap_alloc_old _ _ (hy.lt k hk).2⟩
/-- The same in a box that was made before the call. -/
theorem NX.old {B q S c c' n : Nat} {kd wd : Int} {pf : ByteArray} {A A' : Option Addr} {xs ys : List Int} {w : World} {a0 a1 a2 a3 a4 : Value} (hq : w.heap[q]? = some (.cells #[a0, a1, a2, a3, a4] 28 (0, 0))) (hB : B ≤ q) (hS : B ≤ S) (hx : Mid w S 5 1 (.slice A n c) n (xs.map (Value.int .u8))) (hy : Mid w S 3 1 (.slice A' n c') n (ys.map (Value.int .i64))) :
    NX B q kd wd pf A c A' c' n xs ys (put5 w q kd wd pf A c A' c' n) :=
  ⟨hB, put5_self hq, (hx.lower hS).same fun k hk => put5_far (hx.nobox hq (by decide) hk), (hy.lower hS).same fun k hk => put5_far (hy.nobox hq (by decide) hk)⟩
/-- With whatever is there: what comes back, as a node of its own. -/
def WithR (base : Nat) (kd wd : Int) (pf : ByteArray) (xs ys : List Int) (b kid : Int) (n : Nat) (w : World) (e : Ending) (w' : World) : Prop :=
  ∃ kd' wd' pf' G g G' g' m zs ks, e = .returned (.tuple #[nodeV kd' wd' pf' G g G' g' m, .bool (isN b xs || decide ((n : Int) < highV kd))]) ∧ Mid w' base 5 1 (.slice G m g) m (zs.map (Value.int .u8)) ∧ Mid w' base 3 1 (.slice G' m g') m (ks.map (Value.int .i64)) ∧ Below base w w' ∧
    ((isN b xs || decide ((n : Int) < highV kd)) = true → kd' = kd ∧ wd' = wd ∧ pf' = pf ∧ zs = putL b xs ∧ ks = if isN b xs = true then ys.set (lowN b xs) kid else ys.take (lowN b xs) ++ kid :: ys.drop (lowN b xs))
theorem with_any (kd wd : Int) (pf : ByteArray) (A : Option Addr) (c : Nat) (A' : Option Addr) (c' n : Nat) (xs ys : List Int) (b kid s g : Int) (l : Bool) (w : World) (h : NodeL kd wd pf xs ys n) (hn : n ≤ 256) (hk : kid = refV s g l) (h0 : 0 ≤ s) (h1 : s < 1024) (h2 : 1 ≤ g) (h3 : g ≤ 1073741824)
    (hx : Reads w w.heap.size 1 A n (xs.map (Value.int .u8))) (hy : Reads w w.heap.size 1 A' n (ys.map (Value.int .i64))) :
    Calls Try.prog 19 #[nodeV kd wd pf A c A' c' n, .int .u8 b, .int .i64 kid] w (WithR w.heap.size kd wd pf xs ys b kid n w) := by
  have hl : xs.length = n := klen hx
  by_cases hi : isN b xs = true
  · have hd := hi
    unfold isN at hd
    simp only [decide_eq_true_eq] at hd
    refine (with_put kd wd pf A c A' c' n xs ys b kid s g l w h hn hk h0 h1 h2 h3 hi (by omega) hx hy).mono ?_
    rintro e w' ⟨v, rfl, G, g, G', g', rfl, m1, m2, hb⟩
    exact ⟨kd, wd, pf, G, g, G', g', n, xs, _, by rw [hi]; rfl, m1, m2, hb, fun _ => ⟨rfl, rfl, rfl, by rw [putL_is, if_pos hi], by rw [if_pos hi]⟩⟩
  · have hi' : isN b xs = false := by simpa using hi
    by_cases hf : (n : Int) < highV kd
    · refine (with_new kd wd pf A c A' c' n xs ys b kid s g l w h hn hk h0 h1 h2 h3 hi' hf hx hy).mono ?_
      rintro e w' ⟨v, rfl, G, g, G', g', rfl, m1, m2, hb⟩
      exact ⟨kd, wd, pf, G, g, G', g', n + 1, _, _, by rw [hi', decide_eq_true hf]; rfl, m1, m2, hb, fun _ => ⟨rfl, rfl, rfl, by rw [putL_is, if_neg hi], by rw [if_neg hi]⟩⟩
    · have hf2 : (n : Int) = highV kd := by have := h.high; omega
      refine (with_full kd wd pf A c A' c' n xs ys b kid s g l w h hn hk h0 h1 h2 h3 hi' hf2 hx hy).mono ?_
      rintro e w' ⟨rfl, hb⟩
      exact ⟨0, 0, ⟨#[]⟩, none, 0, none, 0, 0, [], [], by rw [hi', decide_eq_false hf]; rfl, Mid.nil _ _ _ _, Mid.nil _ _ _ _, hb, fun q => by rw [hi', decide_eq_false hf] at q; cases q⟩
end Go.Proofs.Ytononinmjijhoaa
