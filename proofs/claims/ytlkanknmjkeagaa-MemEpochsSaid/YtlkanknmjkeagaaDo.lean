/-
  Accesses of a client: the turnstile, pins and the epoch; conditions: who is a client.
-/
import Derived.Test.YtlkanknmjkeagaaMm
import Derived.Deep.RegionHeld3
namespace Go.Proofs.Ytlkanknmjkeagaa
open Go.RowKit Go.WideShapes Go.ChangeShapes
set_option linter.all false
/-- Behind a call: below b nothing has turned but the blocks of X. -/
structure Only (b : Nat) (X : Nat → Prop) (w w' : World) : Prop where
  os : w'.os = w.os
  tape : w'.tape = w.tape
  output : w'.output = w.output
  size : w.heap.size ≤ w'.heap.size
  block : ∀ i, i < b → ¬ X i → w'.heap[i]? = w.heap[i]?
section
variable {M oM E oE R oR k : Nat} {h now : Int} {pin : Nat → Int} {w w' : World}
set_option maxRecDepth 100000 in
set_option maxHeartbeats 400000 in
theorem pass_yes (H : Mm M oM E oE R oR k h now pin w) (n : Int) : Calls Try.prog 46 #[.pointer (some ⟨M, oM, none⟩), .int .i64 h, .int .i64 n] w fun e w' => e = .returned (.bool true) ∧ w' = w.setCell ⟨M, oM + 4, none⟩ (.int .i64 n) := by
  have h4 := H.c4
  have f4 := H.f4
  clear H
  go_enter Try.func46, Try.ntmps46
  go_wp2
  go_ret
  exact ⟨rfl, rfl⟩
set_option maxRecDepth 100000 in
set_option maxHeartbeats 400000 in
theorem pass_no (H : Mm M oM E oE R oR k h now pin w) (f n : Int) (hf : (h == f) = false) : Calls Try.prog 46 #[.pointer (some ⟨M, oM, none⟩), .int .i64 f, .int .i64 n] w fun e w' => e = .returned (.bool false) ∧ w' = w := by
  have h4 := H.c4
  have hf' : (h != f) = true := by simp [bne, hf]
  clear H
  go_enter Try.func46, Try.ntmps46
  go_wp2
  go_ret
  exact ⟨rfl, rfl⟩
/-- An access of one kind and a number. -/
def acc (kind n : Int) : Value := .agg #[.int .i64 kind, .int .i64 0, .int .i64 0, .int .i64 n, .int .u64 0, .slice none 0 0]
def res (n : Int) (ok : Bool) : Value := .agg #[.int .i64 0, .int .i64 n, .bool ok, .slice none 0 0]
theorem two_new (a b : Obj) : Below w.heap.size w ((w.alloc a).alloc b) := ((Below.refl _ _).alloc (Nat.le_refl _) a).alloc (by simp) b
/-- The world with two objects more. -/
def Two (w w' : World) : Prop := ∃ a b, w' = (w.alloc a).alloc b
/-- What perform makes of an access: the result, one cell set. -/
def Sets (w : World) (p : Addr) (v : Value) (r : Value) (e : Ending) (w' : World) : Prop := e = .returned r ∧ Two (w.setCell p v) w'
def Keeps (w : World) (r : Value) (e : Ending) (w' : World) : Prop := e = .returned r ∧ Two w w'
set_option maxRecDepth 100000 in
set_option maxHeartbeats 800000 in
theorem take_yes (H : Mm M oM E oE R oR k (-1) now pin w) (hk : 0 < k) (j : Nat) : Calls Try.prog 25 #[.pointer (some ⟨M, oM, none⟩), .int .i64 j, acc 14 0] w (Sets w ⟨M, oM + 4, none⟩ (.int .i64 j) (res 0 true)) := by
  obtain ⟨lM, lE, lR⟩ := H.lt hk
  have n0 : M ≠ w.heap.size := by omega
  have n1 : M ≠ w.heap.size + 1 := by omega
  have e0 : E ≠ w.heap.size := by omega
  have e1 : E ≠ w.heap.size + 1 := by omega
  have r0 : R ≠ w.heap.size := by omega
  have r1 : R ≠ w.heap.size + 1 := by omega
  have c1 := H.c1
  have c4 := H.c4
  unfold acc
  go_enter Try.func25, Try.ntmps25
  go_wp2_with (first
    | (go_at_call 46; refine (pass_yes (H.below hk (two_new _ _)) _).mono ?_; rintro e w1 ⟨rfl, rfl⟩)
    | fail)
  exact bodyPost_ret (v := res 0 true) (by simp [results, Try.results25, go_sem]; rfl) rfl ⟨rfl, _, _, rfl⟩
set_option maxRecDepth 100000 in
set_option maxHeartbeats 800000 in
theorem take_no (H : Mm M oM E oE R oR k h now pin w) (hk : 0 < k) (j : Nat) (hh : (h == -1) = false) : Calls Try.prog 25 #[.pointer (some ⟨M, oM, none⟩), .int .i64 j, acc 14 0] w (Keeps w (res 0 false)) := by
  obtain ⟨lM, lE, lR⟩ := H.lt hk
  have n0 : M ≠ w.heap.size := by omega
  have n1 : M ≠ w.heap.size + 1 := by omega
  have e0 : E ≠ w.heap.size := by omega
  have e1 : E ≠ w.heap.size + 1 := by omega
  have r0 : R ≠ w.heap.size := by omega
  have r1 : R ≠ w.heap.size + 1 := by omega
  have c1 := H.c1
  have c4 := H.c4
  unfold acc
  go_enter Try.func25, Try.ntmps25
  go_wp2_with (first
    | (go_at_call 46; refine (pass_no (H.below hk (two_new _ _)) _ _ hh).mono ?_; rintro e w1 ⟨rfl, rfl⟩)
    | fail)
  exact bodyPost_ret (v := res 0 false) (by simp [results, Try.results25, go_sem]; rfl) rfl ⟨rfl, _, _, rfl⟩
set_option maxRecDepth 100000 in
set_option maxHeartbeats 800000 in
theorem give_yes {j : Nat} (H : Mm M oM E oE R oR k (j : Int) now pin w) (hk : 0 < k)  : Calls Try.prog 25 #[.pointer (some ⟨M, oM, none⟩), .int .i64 j, acc 15 0] w (Sets w ⟨M, oM + 4, none⟩ (.int .i64 (-1)) (res 0 true)) := by
  obtain ⟨lM, lE, lR⟩ := H.lt hk
  have n0 : M ≠ w.heap.size := by omega
  have n1 : M ≠ w.heap.size + 1 := by omega
  have e0 : E ≠ w.heap.size := by omega
  have e1 : E ≠ w.heap.size + 1 := by omega
  have r0 : R ≠ w.heap.size := by omega
  have r1 : R ≠ w.heap.size + 1 := by omega
  have c1 := H.c1
  have c4 := H.c4
  unfold acc
  go_enter Try.func25, Try.ntmps25
  go_wp2_with (first
    | (go_at_call 46; refine (pass_yes (H.below hk (two_new _ _)) _).mono ?_; rintro e w1 ⟨rfl, rfl⟩)
    | fail)
  exact bodyPost_ret (v := res 0 true) (by simp [results, Try.results25, go_sem]; rfl) rfl ⟨rfl, _, _, rfl⟩
set_option maxRecDepth 100000 in
set_option maxHeartbeats 800000 in
theorem give_no (H : Mm M oM E oE R oR k h now pin w) (hk : 0 < k) (j : Nat) (hh : (h == (j : Int)) = false) : Calls Try.prog 25 #[.pointer (some ⟨M, oM, none⟩), .int .i64 j, acc 15 0] w (Keeps w (res 0 false)) := by
  obtain ⟨lM, lE, lR⟩ := H.lt hk
  have n0 : M ≠ w.heap.size := by omega
  have n1 : M ≠ w.heap.size + 1 := by omega
  have e0 : E ≠ w.heap.size := by omega
  have e1 : E ≠ w.heap.size + 1 := by omega
  have r0 : R ≠ w.heap.size := by omega
  have r1 : R ≠ w.heap.size + 1 := by omega
  have c1 := H.c1
  have c4 := H.c4
  unfold acc
  go_enter Try.func25, Try.ntmps25
  go_wp2_with (first
    | (go_at_call 46; refine (pass_no (H.below hk (two_new _ _)) _ _ hh).mono ?_; rintro e w1 ⟨rfl, rfl⟩)
    | fail)
  exact bodyPost_ret (v := res 0 false) (by simp [results, Try.results25, go_sem]; rfl) rfl ⟨rfl, _, _, rfl⟩
set_option maxRecDepth 100000 in
set_option maxHeartbeats 800000 in
theorem turn_any (H : Mm M oM E oE R oR k h now pin w) (hk : 0 < k) (j : Nat) : Calls Try.prog 25 #[.pointer (some ⟨M, oM, none⟩), .int .i64 j, acc 13 0] w (Keeps w (res h false)) := by
  obtain ⟨lM, lE, lR⟩ := H.lt hk
  have n0 : M ≠ w.heap.size := by omega
  have n1 : M ≠ w.heap.size + 1 := by omega
  have e0 : E ≠ w.heap.size := by omega
  have e1 : E ≠ w.heap.size + 1 := by omega
  have r0 : R ≠ w.heap.size := by omega
  have r1 : R ≠ w.heap.size + 1 := by omega
  have c1 := H.c1
  have c4 := H.c4
  unfold acc
  go_enter Try.func25, Try.ntmps25
  go_wp2
  exact bodyPost_ret (v := res h false) (by simp [results, Try.results25, go_sem]; rfl) rfl ⟨rfl, _, _, rfl⟩
set_option maxRecDepth 100000 in
set_option maxHeartbeats 800000 in
theorem epoch_any (H : Mm M oM E oE R oR k h now pin w) (hk : 0 < k) (j : Nat) : Calls Try.prog 25 #[.pointer (some ⟨M, oM, none⟩), .int .i64 j, acc 7 0] w (Keeps w (res now false)) := by
  obtain ⟨lM, lE, lR⟩ := H.lt hk
  have n0 : M ≠ w.heap.size := by omega
  have n1 : M ≠ w.heap.size + 1 := by omega
  have e0 : E ≠ w.heap.size := by omega
  have e1 : E ≠ w.heap.size + 1 := by omega
  have r0 : R ≠ w.heap.size := by omega
  have r1 : R ≠ w.heap.size + 1 := by omega
  have c1 := H.c1
  have c4 := H.c4
  unfold acc
  go_enter Try.func25, Try.ntmps25
  go_wp2_with (first
    | (go_at_call 12; refine (now_any (H.below hk (two_new _ _)).ep).mono ?_; rintro e w1 ⟨rfl, rfl⟩)
    | fail)
  exact bodyPost_ret (v := res now false) (by simp [results, Try.results25, go_sem]; rfl) rfl ⟨rfl, _, _, rfl⟩
set_option maxRecDepth 100000 in
set_option maxHeartbeats 800000 in
theorem unpin_any (H : Mm M oM E oE R oR k h now pin w) (hk : 0 < k) (j : Nat) (hj : j < k) : Calls Try.prog 25 #[.pointer (some ⟨M, oM, none⟩), .int .i64 j, acc 9 0] w (Sets w ⟨R, oR + j * 2, none⟩ (.int .i64 (-1)) (res 0 true)) := by
  obtain ⟨lM, lE, lR⟩ := H.lt hk
  have n0 : M ≠ w.heap.size := by omega
  have n1 : M ≠ w.heap.size + 1 := by omega
  have e0 : E ≠ w.heap.size := by omega
  have e1 : E ≠ w.heap.size + 1 := by omega
  have r0 : R ≠ w.heap.size := by omega
  have r1 : R ≠ w.heap.size + 1 := by omega
  have c1 := H.c1
  have c4 := H.c4
  unfold acc
  go_enter Try.func25, Try.ntmps25
  go_wp2_with (first
    | (go_at_call 9; refine (unpin_in (H.below hk (two_new _ _)).ep j hj).mono ?_; rintro e w1 ⟨rfl, rfl⟩)
    | fail)
  exact bodyPost_ret (v := res 0 true) (by simp [results, Try.results25, go_sem]; rfl) rfl ⟨rfl, _, _, rfl⟩
theorem five_new {N : Nat} (hN : N ≤ w.heap.size) (a b c d e : Obj) : Below N w (((((w.alloc a).alloc b).alloc c).alloc d).alloc e) :=
  (((((Below.refl _ _).alloc hN a).alloc (by simp; omega) b).alloc (by simp; omega) c).alloc (by simp; omega) d).alloc (by simp; omega) e
set_option maxRecDepth 100000 in
set_option maxHeartbeats 800000 in
theorem do_set (H : Mm M oM E oE R oR k h now pin w) (hk : 0 < k) (j : Nat) (hj : j < k) (kind n r : Int) (ok : Bool) (pb po : Nat) (v : Value) (hp : pb < w.heap.size)
    (hc : ∀ w0, Below w.heap.size w w0 → Calls Try.prog 25 #[.pointer (some ⟨M, oM, none⟩), .int .i64 j, acc kind n] w0 (Sets w0 ⟨pb, po, none⟩ v (res r ok))) :
    Calls Try.prog 16 #[.pointer (some ⟨M, oM, none⟩), .int .i64 j, acc kind n] w fun e w' => e = .returned (res r ok) ∧ Below w.heap.size (w.setCell ⟨pb, po, none⟩ v) w' := by
  obtain ⟨lM, lE, lR⟩ := H.lt hk
  have n0 : pb ≠ w.heap.size := by omega
  have n1 : pb ≠ w.heap.size + 1 := by omega
  have c3 := H.c3
  have hj0 : ¬ (j : Int) < 0 := by omega
  have hj1 : ¬ (j : Int) ≥ k := by omega
  have HC := Lib.hid hc
  clear hc
  unfold acc
  go_enter Try.func16, Try.ntmps16
  go_wp2_with (first
    | (go_at_call 25; refine (HC.out _ (two_new _ _)).mono ?_; rintro e w1 ⟨rfl, o1, o2, rfl⟩; unfold res)
    | fail)
  exact bodyPost_ret (v := res r ok) (by simp [results, Try.results16, go_sem]; rfl) rfl ⟨rfl, five_new (by simp) _ _ _ _ _⟩
set_option maxRecDepth 100000 in
set_option maxHeartbeats 800000 in
theorem do_keep (H : Mm M oM E oE R oR k h now pin w) (hk : 0 < k) (j : Nat) (hj : j < k) (kind n r : Int) (ok : Bool)
    (hc : ∀ w0, Below w.heap.size w w0 → Calls Try.prog 25 #[.pointer (some ⟨M, oM, none⟩), .int .i64 j, acc kind n] w0 (Keeps w0 (res r ok))) :
    Calls Try.prog 16 #[.pointer (some ⟨M, oM, none⟩), .int .i64 j, acc kind n] w fun e w' => e = .returned (res r ok) ∧ Below w.heap.size w w' := by
  obtain ⟨lM, lE, lR⟩ := H.lt hk
  have c3 := H.c3
  have hj0 : ¬ (j : Int) < 0 := by omega
  have hj1 : ¬ (j : Int) ≥ k := by omega
  have HC := Lib.hid hc
  clear hc
  unfold acc
  go_enter Try.func16, Try.ntmps16
  go_wp2_with (first
    | (go_at_call 25; refine (HC.out _ (two_new _ _)).mono ?_; rintro e w1 ⟨rfl, o1, o2, rfl⟩; unfold res)
    | fail)
  exact bodyPost_ret (v := res r ok) (by simp [results, Try.results16, go_sem]; rfl) rfl ⟨rfl, five_new (Nat.le_refl _) _ _ _ _ _⟩
end
end Go.Proofs.Ytlkanknmjkeagaa
