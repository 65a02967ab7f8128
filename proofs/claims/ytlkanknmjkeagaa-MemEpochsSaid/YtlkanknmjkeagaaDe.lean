/-
  Accesses of a client: pins and the epoch; conditions: who is a client.
-/
import Derived.Test.YtlkanknmjkeagaaDo
namespace Go.Proofs.Ytlkanknmjkeagaa
open Go.RowKit Go.WideShapes Go.ChangeShapes
set_option linter.all false
section
variable {M oM E oE R oR k : Nat} {h now : Int} {pin : Nat → Int} {w w' : World}
theorem keepM {X p off : Nat} {v u : Value} {a b : Obj} (hne : X ≠ M) (lM : M < w.heap.size) (c : w.cell? ⟨M, off, none⟩ = some u) : (((w.setCell ⟨X, p, none⟩ v).alloc a).alloc b).drew.cell? ⟨M, off, none⟩ = some u :=
  (((two_new a b).drew).cell (p := ⟨M, off, none⟩) (by simpa using lM)).trans ((World.cell?_setCell_far _ _ _ _ hne).trans c)
theorem keepB {X p : Nat} {v c0 c1 c2 c3 c4 c5 : Value} {t : TypeId} {b : Obj} : (((w.setCell ⟨X, p, none⟩ v).alloc (.cells #[c0, c1, c2, c3, c4, c5] t)).alloc b).drew.cell? ⟨w.heap.size, 3, none⟩ = some c3 :=
  ((((Below.refl _ _).alloc (Nat.le_refl _) b).drew).cell (p := ⟨w.heap.size, 3, none⟩) (by simp)).trans (World.cell?_alloc_at _ _ _ _ (by simp))
/-- The same, an answer drawn. -/
def SetsD (w : World) (p : Addr) (v : Value) (r : Value) (e : Ending) (w' : World) : Prop := e = .returned r ∧ ∃ a b, w' = (((w.setCell p v).alloc a).alloc b).drew
def KeepsD (w : World) (r : Value) (e : Ending) (w' : World) : Prop := e = .returned r ∧ ∃ a b, w' = ((w.alloc a).alloc b).drew
set_option maxRecDepth 100000 in
set_option maxHeartbeats 800000 in
theorem apin_in (H : Mm M oM E oE R oR k h now pin w) (hk : 0 < k) (j : Nat) (hj : j < k) (n : Int) (hn : 0 ≤ n) (hn9 : n ≤ now) : Calls Try.prog 25 #[.pointer (some ⟨M, oM, none⟩), .int .i64 j, acc 8 n] w (SetsD w ⟨R, oR + j * 2, none⟩ (.int .i64 n) (res 0 true)) := by
  obtain ⟨lM, lE, lR⟩ := H.lt hk
  have n0 : M ≠ w.heap.size := by omega
  have n1 : M ≠ w.heap.size + 1 := by omega
  have e0 : E ≠ w.heap.size := by omega
  have e1 : E ≠ w.heap.size + 1 := by omega
  have r0 : R ≠ w.heap.size := by omega
  have r1 : R ≠ w.heap.size + 1 := by omega
  have c1 := H.c1
  have hne := H.ne
  obtain ⟨hME, hMR⟩ := hne
  unfold acc
  go_enter Try.func25, Try.ntmps25
  go_wp2
  go_region_held3 (fun w' => w'.cell? ⟨M, oM + 1, none⟩ = some (.pointer (some ⟨E, oE, none⟩)) ∧ w'.cell? ⟨w.heap.size, 3, none⟩ = some (.int .i64 (n))) ((first | (go_keep; done) | exact ⟨keepM (Ne.symm hMR) lM c1, keepB⟩))
    (first | (go_at_call 8; refine (pin_in (w := _) (H.below hk (two_new _ _)).drew.ep j hj n hn hn9).mono ?_; rintro e w' ⟨rfl, rfl⟩))
  all_goals
    go_wp2
    exact bodyPost_ret (v := res 0 true) (by simp [results, Try.results25, go_sem]; rfl) rfl ⟨rfl, _, _, rfl⟩
set_option maxRecDepth 100000 in
set_option maxHeartbeats 800000 in
theorem apin_late (H : Mm M oM E oE R oR k h now pin w) (hk : 0 < k) (j : Nat) (hj : j < k) (n : Int) (hn : 0 ≤ n) (hn9 : now < n) : Calls Try.prog 25 #[.pointer (some ⟨M, oM, none⟩), .int .i64 j, acc 8 n] w (KeepsD w (res 0 false)) := by
  obtain ⟨lM, lE, lR⟩ := H.lt hk
  have n0 : M ≠ w.heap.size := by omega
  have n1 : M ≠ w.heap.size + 1 := by omega
  have e0 : E ≠ w.heap.size := by omega
  have e1 : E ≠ w.heap.size + 1 := by omega
  have r0 : R ≠ w.heap.size := by omega
  have r1 : R ≠ w.heap.size + 1 := by omega
  have c1 := H.c1
  have hne := H.ne
  obtain ⟨hME, hMR⟩ := hne
  unfold acc
  go_enter Try.func25, Try.ntmps25
  go_wp2
  go_region_held3 (fun w' => w'.cell? ⟨M, oM + 1, none⟩ = some (.pointer (some ⟨E, oE, none⟩)) ∧ w'.cell? ⟨w.heap.size, 3, none⟩ = some (.int .i64 (n))) (go_keep)
    (first | (go_at_call 8; refine (pin_late (w := _) (H.below hk (two_new _ _)).drew.ep j hj n hn hn9).mono ?_; rintro e w' ⟨rfl, rfl⟩))
  all_goals
    go_wp2
    exact bodyPost_ret (v := res 0 false) (by simp [results, Try.results25, go_sem]; rfl) rfl ⟨rfl, _, _, rfl⟩
set_option maxRecDepth 100000 in
set_option maxHeartbeats 800000 in
theorem apinOf_in (H : Mm M oM E oE R oR k h now pin w) (hk : 0 < k) (j : Nat) (i : Nat) (hi : i < k) : Calls Try.prog 25 #[.pointer (some ⟨M, oM, none⟩), .int .i64 j, acc 10 i] w (KeepsD w (res (pin i) false)) := by
  obtain ⟨lM, lE, lR⟩ := H.lt hk
  have n0 : M ≠ w.heap.size := by omega
  have n1 : M ≠ w.heap.size + 1 := by omega
  have e0 : E ≠ w.heap.size := by omega
  have e1 : E ≠ w.heap.size + 1 := by omega
  have r0 : R ≠ w.heap.size := by omega
  have r1 : R ≠ w.heap.size + 1 := by omega
  have c1 := H.c1
  have hne := H.ne
  obtain ⟨hME, hMR⟩ := hne
  unfold acc
  go_enter Try.func25, Try.ntmps25
  go_wp2
  go_region_held3 (fun w' => w'.cell? ⟨M, oM + 1, none⟩ = some (.pointer (some ⟨E, oE, none⟩)) ∧ w'.cell? ⟨w.heap.size, 3, none⟩ = some (.int .i64 (i))) (go_keep)
    (first | (go_at_call 11; refine (pinOf_in (w := _) (H.below hk (two_new _ _)).drew.ep i hi).mono ?_; rintro e w' ⟨rfl, rfl⟩))
  all_goals
    go_wp2
    exact bodyPost_ret (v := res (pin i) false) (by simp [results, Try.results25, go_sem]; rfl) rfl ⟨rfl, _, _, rfl⟩
set_option maxRecDepth 100000 in
set_option maxHeartbeats 800000 in
theorem aadv_yes (H : Mm M oM E oE R oR k h now pin w) (hk : 0 < k) (j : Nat) (hn : 0 ≤ now) (hn9 : now < 1073741824) : Calls Try.prog 25 #[.pointer (some ⟨M, oM, none⟩), .int .i64 j, acc 11 now] w (SetsD w ⟨E, oE, none⟩ (.int .i64 (now + 1)) (res 0 true)) := by
  obtain ⟨lM, lE, lR⟩ := H.lt hk
  have n0 : M ≠ w.heap.size := by omega
  have n1 : M ≠ w.heap.size + 1 := by omega
  have e0 : E ≠ w.heap.size := by omega
  have e1 : E ≠ w.heap.size + 1 := by omega
  have r0 : R ≠ w.heap.size := by omega
  have r1 : R ≠ w.heap.size + 1 := by omega
  have c1 := H.c1
  have hne := H.ne
  obtain ⟨hME, hMR⟩ := hne
  unfold acc
  go_enter Try.func25, Try.ntmps25
  go_wp2
  go_region_held3 (fun w' => w'.cell? ⟨M, oM + 1, none⟩ = some (.pointer (some ⟨E, oE, none⟩)) ∧ w'.cell? ⟨w.heap.size, 3, none⟩ = some (.int .i64 (now))) ((first | (go_keep; done) | exact ⟨keepM (Ne.symm hME) lM c1, keepB⟩))
    (first | (go_at_call 10; refine (adv_yes (w := _) (H.below hk (two_new _ _)).drew.ep hn hn9).mono ?_; rintro e w' ⟨rfl, rfl⟩))
  all_goals
    go_wp2
    exact bodyPost_ret (v := res 0 true) (by simp [results, Try.results25, go_sem]; rfl) rfl ⟨rfl, _, _, rfl⟩
set_option maxRecDepth 100000 in
set_option maxHeartbeats 800000 in
theorem aadv_no (H : Mm M oM E oE R oR k h now pin w) (hk : 0 < k) (j : Nat) (n : Int) (hn : (now == n) = false) : Calls Try.prog 25 #[.pointer (some ⟨M, oM, none⟩), .int .i64 j, acc 11 n] w (KeepsD w (res 0 false)) := by
  obtain ⟨lM, lE, lR⟩ := H.lt hk
  have n0 : M ≠ w.heap.size := by omega
  have n1 : M ≠ w.heap.size + 1 := by omega
  have e0 : E ≠ w.heap.size := by omega
  have e1 : E ≠ w.heap.size + 1 := by omega
  have r0 : R ≠ w.heap.size := by omega
  have r1 : R ≠ w.heap.size + 1 := by omega
  have c1 := H.c1
  have hne := H.ne
  obtain ⟨hME, hMR⟩ := hne
  unfold acc
  go_enter Try.func25, Try.ntmps25
  go_wp2
  go_region_held3 (fun w' => w'.cell? ⟨M, oM + 1, none⟩ = some (.pointer (some ⟨E, oE, none⟩)) ∧ w'.cell? ⟨w.heap.size, 3, none⟩ = some (.int .i64 (n))) (go_keep)
    (first | (go_at_call 10; refine (adv_no (w := _) (H.below hk (two_new _ _)).drew.ep n hn).mono ?_; rintro e w' ⟨rfl, rfl⟩))
  all_goals
    go_wp2
    exact bodyPost_ret (v := res 0 false) (by simp [results, Try.results25, go_sem]; rfl) rfl ⟨rfl, _, _, rfl⟩
theorem five_newD {N : Nat} (hN : N ≤ w.heap.size) (a b c d e : Obj) : Below N w (((((w.alloc a).alloc b).alloc c).alloc d).drew.alloc e) :=
  (((((Below.refl _ _).alloc hN a).alloc (by simp; omega) b).alloc (by simp; omega) c).alloc (by simp; omega) d).drew.alloc (by simp; omega) e
set_option maxRecDepth 100000 in
set_option maxHeartbeats 800000 in
theorem do_setD (H : Mm M oM E oE R oR k h now pin w) (hk : 0 < k) (j : Nat) (hj : j < k) (kind n r : Int) (ok : Bool) (pb po : Nat) (v : Value) (hp : pb < w.heap.size)
    (hc : ∀ w0, Below w.heap.size w w0 → Calls Try.prog 25 #[.pointer (some ⟨M, oM, none⟩), .int .i64 j, acc kind n] w0 (SetsD w0 ⟨pb, po, none⟩ v (res r ok))) :
    Calls Try.prog 16 #[.pointer (some ⟨M, oM, none⟩), .int .i64 j, acc kind n] w fun e w' => e = .returned (res r ok) ∧ Below w.heap.size (w.setCell ⟨pb, po, none⟩ v) w' := by
  obtain ⟨lM, lE, lR⟩ := H.lt hk
  have n0 : pb ≠ w.heap.size := by omega
  have n1 : pb ≠ w.heap.size + 1 := by omega
  have c3 := H.c3
  have hj0 : ¬ (j : Int) < 0 := by omega
  have hj1 : ¬ (j : Int) ≥ k := by omega
  have HC := Lib.hid hc
  clear hc
  unfold acc
  go_enter Try.func16, Try.ntmps16
  go_wp2_with (first
    | (go_at_call 25; refine (HC.out _ (two_new _ _)).mono ?_; rintro e w1 ⟨rfl, o1, o2, rfl⟩; unfold res)
    | fail)
  exact bodyPost_ret (v := res r ok) (by simp [results, Try.results16, go_sem]; rfl) rfl ⟨rfl, five_newD (by simp) _ _ _ _ _⟩
set_option maxRecDepth 100000 in
set_option maxHeartbeats 800000 in
theorem do_keepD (H : Mm M oM E oE R oR k h now pin w) (hk : 0 < k) (j : Nat) (hj : j < k) (kind n r : Int) (ok : Bool)
    (hc : ∀ w0, Below w.heap.size w w0 → Calls Try.prog 25 #[.pointer (some ⟨M, oM, none⟩), .int .i64 j, acc kind n] w0 (KeepsD w0 (res r ok))) :
    Calls Try.prog 16 #[.pointer (some ⟨M, oM, none⟩), .int .i64 j, acc kind n] w fun e w' => e = .returned (res r ok) ∧ Below w.heap.size w w' := by
  obtain ⟨lM, lE, lR⟩ := H.lt hk
  have c3 := H.c3
  have hj0 : ¬ (j : Int) < 0 := by omega
  have hj1 : ¬ (j : Int) ≥ k := by omega
  have HC := Lib.hid hc
  clear hc
  unfold acc
  go_enter Try.func16, Try.ntmps16
  go_wp2_with (first
    | (go_at_call 25; refine (HC.out _ (two_new _ _)).mono ?_; rintro e w1 ⟨rfl, o1, o2, rfl⟩; unfold res)
    | fail)
  exact bodyPost_ret (v := res r ok) (by simp [results, Try.results16, go_sem]; rfl) rfl ⟨rfl, five_newD (Nat.le_refl _) _ _ _ _ _⟩
end
end Go.Proofs.Ytlkanknmjkeagaa
