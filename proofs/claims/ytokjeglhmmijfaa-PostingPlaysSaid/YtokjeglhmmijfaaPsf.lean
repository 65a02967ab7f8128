/-
  slices.Chunk of ids by sixteens: its iterator's contract; conditions: lengths.
-/
import Derived.Test.YtokjeglhmmijfaaPse
namespace Go.Proofs.Ytokjeglhmmijfaa
open Go Go.RowKit Go.WideShapes Go.ChangeShapes Go.Shelf
set_option linter.all false
attribute [local go_sem] Oper.semAt_some
set_option maxHeartbeats 1000000 in
theorem chunk_any (A : Option Addr) (n c : Nat) (w : World) :
    Calls Try.prog 31 #[.slice A n c, .int .i64 16] w fun e w' => e = .returned (.func (.func 42) #[] #[.pointer (some ⟨w.heap.size, 0, none⟩), .pointer (some ⟨w.heap.size + 1, 0, none⟩)]) ∧ w' = (w.alloc (.cells #[.slice A n c] 28)).alloc (.cells #[.int .i64 16] 3) := by
  have h0 := cell_of (heap_alloc_new (w.alloc (.cells #[.slice A n c] 28)) (.cells #[.int .i64 16] 3)) 0
  rw [World.size_alloc] at h0
  have h1 : ((w.alloc (.cells #[.slice A n c] 28)).alloc (.cells #[.int .i64 16] 3)).cell? ⟨w.heap.size + 1, 0, none⟩ = some (.int .i64 16) := h0
  clear h0
  go_enter Try.func31, Try.ntmps31
  go_wp2
  go_ret
  exact ⟨rfl, rfl⟩
/-- What has come when k rounds are over. -/
def upto {α : Type} (f : Nat → α) (k : Nat) : List α := (List.range k).map f
theorem upto_succ {α : Type} (f : Nat → α) (k : Nat) : upto f (k + 1) = upto f k ++ [f k] := by simp [upto, List.range_succ]
theorem upto_length {α : Type} (f : Nat → α) (k : Nat) : (upto f k).length = k := by simp [upto]
/-- The number of ids in chunk k. -/
def endK (n k : Nat) : Nat := min 16 (n - 16 * k)
/-- Chunk k, as a slice. -/
def chv (A : Option Addr) (n k : Nat) : Value := .slice (A.map (·.add (16 * k))) (endK n k) (endK n k)
/-- The iterator's two boxes stand. -/
def Kp2 (Bs Bn : Nat) (W W' : World) : Prop := W'.cell? ⟨Bs, 0, none⟩ = W.cell? ⟨Bs, 0, none⟩ ∧ W'.cell? ⟨Bn, 0, none⟩ = W.cell? ⟨Bn, 0, none⟩
theorem Kp2.refl (Bs Bn : Nat) (W : World) : Kp2 Bs Bn W W := ⟨rfl, rfl⟩
theorem Kp2.trans {Bs Bn : Nat} {X Y Z : World} (h : Kp2 Bs Bn X Y) (k : Kp2 Bs Bn Y Z) : Kp2 Bs Bn X Z := ⟨k.1.trans h.1, k.2.trans h.2⟩
theorem Kp2.put {Bs Bn : Nat} {w : World} (h1 : Bs < w.heap.size) (h2 : Bn < w.heap.size) (W : World) (l : Nat) (o o' : Obj) (hl : w.heap.size ≤ l) (_ : W.heap[l]? = some o) (_ : o.isCells = false) (_ : o.isWalk = false) : Kp2 Bs Bn W (W.putObj l o') :=
  ⟨World.cell?_of_block (World.putObj_heap_other (by show Bs ≠ l; omega)), World.cell?_of_block (World.putObj_heap_other (by show Bn ≠ l; omega))⟩
theorem Kp2.below {Bs Bn B : Nat} {W W' : World} (h : Below B W W') (h1 : Bs < B) (h2 : Bn < B) : Kp2 Bs Bn W W' := ⟨h.cell (p := ⟨Bs, 0, none⟩) h1, h.cell (p := ⟨Bn, 0, none⟩) h2⟩
set_option maxRecDepth 100000 in
set_option maxHeartbeats 2000000 in
theorem chunk1_in (m : Nat) (hm : 1 ≤ m) (l Bs Bn n c K : Nat) (ad : Addr) (hn : n ≤ 1000) (hc : n ≤ c) (hc9 : c ≤ maxLen) (hK : K = (n + 15) / 16) (J Jx : List Nat → World → Prop)
    (hY : ∀ pre x W, J pre W → pre.length < K → x < K → YieldAt Fence.wide (m - 1) Try.prog l #[.slice (some (ad.add (16 * x))) (endK n x) (endK n x)] W fun e W' =>
      (e = .returned (.bool true) ∧ J (pre ++ [x]) W' ∧ Kp2 Bs Bn W W') ∨ (e = .returned (.bool false) ∧ Jx (pre ++ [x]) W'))
    (hJd : ∀ s W1, J s W1 → J s W1.drew) (W : World) (hBs : W.cell? ⟨Bs, 0, none⟩ = some (.slice (some ad) n c)) (hBn : W.cell? ⟨Bn, 0, none⟩ = some (.int .i64 16)) (h0 : J [] W) :
    CallsIn Fence.wide m Try.prog 42 #[.func (.yield l) #[] #[], .pointer (some ⟨Bs, 0, none⟩), .pointer (some ⟨Bn, 0, none⟩)] W fun e W' => (∃ v, e = .returned v) ∧
      ((∃ ys, ys = upto id K ∧ J ys W') ∨ (∃ pre, (∃ k, k ≤ K ∧ pre = upto id k) ∧ Jx pre W')) := by
  refine callsIn_of_wp Try.func42 rfl trivial ?_ rfl
  simp only [Try.ntmps42, List.size_toArray, List.length_cons, List.length_nil, Nat.reduceAdd, Nat.reduceSub, Array.replicate_succ, Array.replicate_zero, List.push_toArray, List.append_toArray, List.nil_append, List.cons_append]
  gi_wp2
  gi_loopw [4, 5] (fun i _ wr => ∃ k : Nat, k ≤ K ∧ i = .int .i64 ((16 * k : Nat) : Int) ∧ J (upto id k) wr ∧ Kp2 Bs Bn W wr)
    (fun i _ _ => 16 * K - (intOf i).toNat)
  case atStart => exact ⟨0, Nat.zero_le _, rfl, h0, Kp2.refl _ _ _⟩
  case round =>
    obtain ⟨k, hk, rfl, hJs, hnx⟩ := hrel
    have p0 := hnx.1.trans hBs
    have p1 := hnx.2.trans hBn
    have HNX := Lib.hid hnx
    clear hnx
    by_cases hlt : 16 * k < n
    · have hkK : k < K := by omega
      obtain ⟨fn, tmps, assign, body, hy, hR⟩ := hY (upto id k) k wr.drew (hJd _ _ hJs) (by rw [upto_length]; exact hkK) hkK
      obtain ⟨i, hi⟩ : ∃ i, i = 16 * k := ⟨_, rfl⟩
      obtain ⟨e, he⟩ : ∃ e, e = endK n k := ⟨_, rfl⟩
      have he2 : e = min 16 (n - i) := by rw [he, hi]; rfl
      rw [← he, ← hi] at hy
      have hin : i < n := by omega
      have i0 : (0 : Int) ≤ i := by omega
      have i1 : (i : Int) ≤ n := by omega
      have i2 : (i : Int) < n := by omega
      have i3 : (n : Int) ≤ c := by omega
      have i4 : ¬ c = i := by omega
      have e1 : i + e ≤ n := by omega
      have e0 : 0 < e := by omega
      have e2 : (i : Int) + e ≤ c := by omega
      have e3 : (0 : Int) ≤ (i : Int) + e := by omega
      have e4 : (i : Int) ≤ (i : Int) + e := by omega
      have HE : Hid (min (16 : Int) ((n - i : Nat) : Int) = e) := Lib.hid (by omega)
      have HI := Lib.hid hi
      have HJ := Lib.hid hJs
      rw [← hi]
      unfold maxLen at hc9
      clear hi he he2 hlt hJs
      gi_wp2
      gi_region
      rw [HE.out]
      gi_wp2
      refine hR.mono ?_
      rintro e' W3 (⟨rfl, hJ3, hk3⟩ | ⟨rfl, hJx3⟩)
      · have q1 := hk3.2.trans p1
        have HN := Lib.hid (HNX.out.trans (Kp2.trans (Y := wr.drew) ⟨rfl, rfl⟩ hk3))
        clear hk3
        gi_wp2
        go_roundw
        case rel => exact ⟨k + 1, hkK, by have := HI.out; congr 1; omega, by rw [upto_succ]; exact hJ3, HN.out⟩
        case measure => simp only [intOf]; have := HI.out; omega
      · gi_wp2
        refine bodyPost_ret (results_none rfl _ _ _) rfl ?_
        exact ⟨⟨_, rfl⟩, .inr ⟨_, ⟨k + 1, hkK, (upto_succ _ _).symm⟩, hJx3⟩⟩
    · obtain rfl : k = K := by omega
      obtain ⟨i, hi⟩ : ∃ i, i = 16 * k := ⟨_, rfl⟩
      rw [← hi] at hlt ⊢
      have i2 : ¬ (i : Int) < n := by omega
      have HJ := Lib.hid hJs
      clear hi hlt hJs
      gi_wp2
      go_end0
      exact ⟨⟨_, rfl⟩, .inl (by rw [← hK]; exact HJ.out)⟩
set_option maxRecDepth 100000 in
set_option maxHeartbeats 1000000 in
theorem chunk1_nil (m : Nat) (l Bs Bn : Nat) (A : Option Addr) (c : Nat) (J : List Nat → World → Prop) (W : World) (hBs : W.cell? ⟨Bs, 0, none⟩ = some (.slice A 0 c)) (h0 : J [] W) :
    CallsIn Fence.wide m Try.prog 42 #[.func (.yield l) #[] #[], .pointer (some ⟨Bs, 0, none⟩), .pointer (some ⟨Bn, 0, none⟩)] W fun e W' => (∃ v, e = .returned v) ∧ J [] W' := by
  refine callsIn_of_wp Try.func42 rfl trivial ?_ rfl
  simp only [Try.ntmps42, List.size_toArray, List.length_cons, List.length_nil, Nat.reduceAdd, Nat.reduceSub, Array.replicate_succ, Array.replicate_zero, List.push_toArray, List.append_toArray, List.nil_append, List.cons_append]
  gi_wp2
  gi_loopw [4, 5] (fun i _ wr => i = .int .i64 0 ∧ J [] wr ∧ wr.cell? ⟨Bs, 0, none⟩ = some (.slice A 0 c)) (fun _ _ _ => 0)
  case atStart => exact ⟨rfl, h0, hBs⟩
  case round =>
    obtain ⟨rfl, hJs, hc⟩ := hrel
    gi_wp2
    go_end0
    exact ⟨⟨_, rfl⟩, hJs⟩
/-- A chunk's number. -/
abbrev Ck (K : Nat) := { k : Nat // k < K }
theorem chunk_stops (m : Nat) (hm : 1 ≤ m) (Bs Bn n c : Nat) (A : Option Addr) (hn : n ≤ 1000) (hc : n ≤ c) (hc9 : c ≤ maxLen) (hA : 0 < n → A ≠ none) (w : World) (hBs : w.cell? ⟨Bs, 0, none⟩ = some (.slice A n c)) (hBn : w.cell? ⟨Bn, 0, none⟩ = some (.int .i64 16)) (hs : Bs < w.heap.size) (hn0 : Bn < w.heap.size) :
    SeqStopsK Fence.wide m Try.prog 42 #[.pointer (some ⟨Bs, 0, none⟩), .pointer (some ⟨Bn, 0, none⟩)] (fun x : Ck ((n + 15) / 16) => #[chv A n x.1]) (Kp2 Bs Bn) (fun ys => ys.map Subtype.val = upto id ((n + 15) / 16)) (fun _ => True) ((n + 15) / 16) w := fun l J Jx W hW hJ hJx hY hJ0 => by
  have q0 := (hW.cell (p := ⟨Bs, 0, none⟩) hs).trans hBs
  have q1 := (hW.cell (p := ⟨Bn, 0, none⟩) hn0).trans hBn
  rcases Nat.eq_zero_or_pos n with rfl | hpos
  · refine (chunk1_nil m l Bs Bn A c (fun pre W => ∃ pre', pre'.map Subtype.val = pre ∧ J pre' W) W q0 ⟨[], rfl, hJ0⟩).mono ?_
    rintro e W' ⟨he, pre', hp, hj⟩
    exact ⟨he, .inl ⟨pre', hp, hj⟩⟩
  · obtain ⟨ad, rfl⟩ : ∃ ad, A = some ad := by
      cases A with
      | none => exact absurd rfl (hA hpos)
      | some ad => exact ⟨ad, rfl⟩
    refine (chunk1_in m hm l Bs Bn n c _ ad hn hc hc9 rfl (fun pre W => ∃ pre', pre'.map Subtype.val = pre ∧ J pre' W) (fun pre W => ∃ pre', pre'.map Subtype.val = pre ∧ Jx pre' W) ?_ (by rintro s W1 ⟨pre', hp, hj⟩; exact ⟨pre', hp, hJ pre' W1 W1.drew none hj ⟨rfl, rfl, rfl, Nat.le_refl _, fun _ _ _ => rfl⟩ (fun r e => by cases e)⟩) W q0 q1 ⟨[], rfl, hJ0⟩).mono ?_
    · rintro pre x W1 ⟨pre', rfl, hj⟩ hlen hx
      obtain ⟨fn, tmps, assign, body, hy, hR⟩ := hY pre' ⟨x, hx⟩ W1 hj (by simpa using hlen)
      refine ⟨fn, tmps, assign, body, hy, hR.mono ?_⟩
      rintro e W' (⟨h1, h2, h3⟩ | ⟨h1, h2⟩)
      · exact .inl ⟨h1, ⟨pre' ++ [⟨x, hx⟩], by simp, h2⟩, h3⟩
      · exact .inr ⟨h1, pre' ++ [⟨x, hx⟩], by simp, h2⟩
    · rintro e W' ⟨he, ⟨ys, hys, pre', hp, hj⟩ | ⟨pre, _, pre', hp, hj⟩⟩
      · exact ⟨he, .inl ⟨pre', hp.trans hys, hj⟩⟩
      · exact ⟨he, .inr ⟨pre', trivial, hj⟩⟩
end Go.Proofs.Ytokjeglhmmijfaa
