/-
  The program's epochs and the document's own, side by side: what each holds, and what a call turns; no condition.
-/
import Derived.Test.YtafedpphecfgnaaHp
import Derived.Test.YtafedpphecfgnaaEx3
namespace Go.Proofs.Ytafedpphecfgnaa
open Go.RowKit Go.WideShapes Go.ChangeShapes
set_option linter.all false
/-- Where epochs stand: the epoch, the limit, the pins, what waits. -/
structure Sta where
  now : Int
  lim : Int
  pin : Nat → Int
  wt : Nat → List (Int × Int)
/-- The cells' places, by tag and client. -/
def adx (D E R Q A B : Nat) : Nat × Nat → Addr
  | (0, _) => ⟨E, 0, none⟩
  | (1, _) => ⟨E, 1, none⟩
  | (2, _) => ⟨E, 2, none⟩
  | (3, j) => ⟨R, j * 2, none⟩
  | (4, j) => ⟨R, j * 2 + 1, none⟩
  | (5, _) => ⟨Q, 0, none⟩
  | (6, _) => ⟨Q, 1, none⟩
  | (7, _) => ⟨Q, 2, none⟩
  | (8, _) => ⟨Q, 3, none⟩
  | (9, j) => ⟨A, j, none⟩
  | (10, j) => ⟨B, j, none⟩
  | (_, j) => ⟨D, j, none⟩
def okx (m k : Nat) (i : Nat × Nat) : Prop := i.1 < 12 ∧ (i.1 = 11 → i.2 < m) ∧ ((i.1 = 3 ∨ i.1 = 4 ∨ i.1 = 9 ∨ i.1 = 10) → i.2 < k) ∧ (¬ (i.1 = 3 ∨ i.1 = 4 ∨ i.1 = 9 ∨ i.1 = 10 ∨ i.1 = 11) → i.2 = 0)
def cvx (G : Nat → Int) (R A B k : Nat) (s u : Sta) (V : Bool × Nat → Value) : Nat × Nat → Value
  | (0, _) => .int .i64 s.now
  | (1, _) => .int .i64 s.lim
  | (2, _) => .slice (some ⟨R, 0, none⟩) k k
  | (3, j) => .int .i64 (s.pin j)
  | (4, j) => V (false, j)
  | (5, _) => .int .i64 u.now
  | (6, _) => .int .i64 u.lim
  | (7, _) => .slice (some ⟨A, 0, none⟩) k k
  | (8, _) => .slice (some ⟨B, 0, none⟩) k k
  | (9, j) => .int .i64 (u.pin j)
  | (10, j) => V (true, j)
  | (_, j) => .int .i64 (G j)
def tzx (r : Bool × Nat) : TypeId × Nat := (if r.1 then 64 else 61, 2)
def ywx (s u : Sta) (r : Bool × Nat) : Nat × List Value := ((if r.1 then u.wt r.2 else s.wt r.2).length, prs (if r.1 then u.wt r.2 else s.wt r.2))
/-- Both epochs: the program's at E and R stand at s, the document's at Q, A, B at u. -/
def Both (D m : Nat) (G : Nat → Int) (W : World) (E R Q A B k : Nat) (s u : Sta) (V : Bool × Nat → Value) (w : World) : Prop :=
  Hp W (adx D E R Q A B) (okx m k) (fun r => r.2 < k) tzx (cvx G R A B k s u V) V (ywx s u) w
section
variable {D m : Nat} {G : Nat → Int} {W : World} {E R Q A B k : Nat} {s u : Sta} {V : Bool × Nat → Value} {w w' : World}
theorem ok0 {t : Nat} (h : t < 3 ∨ (4 < t ∧ t < 9)) : okx m k (t, 0) := ⟨by show t < 12; omega, fun h' => by simp only at h'; omega, fun h' => by simp only at h'; omega, fun _ => rfl⟩
theorem ok1 {t j : Nat} (h : t = 3 ∨ t = 4 ∨ t = 9 ∨ t = 10) (hj : j < k) : okx m k (t, j) := ⟨by show t < 12; omega, fun h' => by simp only at h'; omega, fun _ => hj, fun h' => absurd (by simp only; omega) h'⟩
theorem Both.cell (h : Both D m G W E R Q A B k s u V w) (t j : Nat) (ht : okx m k (t, j)) : w.cell? (adx D E R Q A B (t, j)) = some (cvx G R A B k s u V (t, j)) ∧ w.frozen? (adx D E R Q A B (t, j)) = false := ⟨h.cv _ ht, h.fv _ ht⟩
theorem Both.c0 (h : Both D m G W E R Q A B k s u V w) : w.cell? ⟨E, 0, none⟩ = some (.int .i64 s.now) ∧ w.frozen? ⟨E, 0, none⟩ = false := h.cell 0 0 (ok0 (by omega))
theorem Both.c1 (h : Both D m G W E R Q A B k s u V w) : w.cell? ⟨E, 1, none⟩ = some (.int .i64 s.lim) := (h.cell 1 0 (ok0 (by omega))).1
theorem Both.c2 (h : Both D m G W E R Q A B k s u V w) : w.cell? ⟨E, 2, none⟩ = some (.slice (some ⟨R, 0, none⟩) k k) := (h.cell 2 0 (ok0 (by omega))).1
theorem Both.c3 (h : Both D m G W E R Q A B k s u V w) {j : Nat} (hj : j < k) : w.cell? ⟨R, j * 2, none⟩ = some (.int .i64 (s.pin j)) ∧ w.frozen? ⟨R, j * 2, none⟩ = false := h.cell 3 j (ok1 (by omega) hj)
theorem Both.c4 (h : Both D m G W E R Q A B k s u V w) {j : Nat} (hj : j < k) : w.cell? ⟨R, j * 2 + 1, none⟩ = some (V (false, j)) ∧ w.frozen? ⟨R, j * 2 + 1, none⟩ = false := h.cell 4 j (ok1 (by omega) hj)
theorem Both.c5 (h : Both D m G W E R Q A B k s u V w) : w.cell? ⟨Q, 0, none⟩ = some (.int .i64 u.now) ∧ w.frozen? ⟨Q, 0, none⟩ = false := h.cell 5 0 (ok0 (by omega))
theorem Both.c6 (h : Both D m G W E R Q A B k s u V w) : w.cell? ⟨Q, 1, none⟩ = some (.int .i64 u.lim) := (h.cell 6 0 (ok0 (by omega))).1
theorem Both.c7 (h : Both D m G W E R Q A B k s u V w) : w.cell? ⟨Q, 2, none⟩ = some (.slice (some ⟨A, 0, none⟩) k k) := (h.cell 7 0 (ok0 (by omega))).1
theorem Both.c8 (h : Both D m G W E R Q A B k s u V w) : w.cell? ⟨Q, 3, none⟩ = some (.slice (some ⟨B, 0, none⟩) k k) := (h.cell 8 0 (ok0 (by omega))).1
theorem Both.c9 (h : Both D m G W E R Q A B k s u V w) {j : Nat} (hj : j < k) : w.cell? ⟨A, j, none⟩ = some (.int .i64 (u.pin j)) ∧ w.frozen? ⟨A, j, none⟩ = false := h.cell 9 j (ok1 (by omega) hj)
theorem Both.c10 (h : Both D m G W E R Q A B k s u V w) {j : Nat} (hj : j < k) : w.cell? ⟨B, j, none⟩ = some (V (true, j)) ∧ w.frozen? ⟨B, j, none⟩ = false := h.cell 10 j (ok1 (by omega) hj)
theorem Both.row0 (h : Both D m G W E R Q A B k s u V w) {j : Nat} (hj : j < k) : Mid w W.heap.size 61 2 (V (false, j)) (s.wt j).length (prs (s.wt j)) := h.own (false, j) hj
theorem Both.row1 (h : Both D m G W E R Q A B k s u V w) {j : Nat} (hj : j < k) : Mid w W.heap.size 64 2 (V (true, j)) (u.wt j).length (prs (u.wt j)) := h.own (true, j) hj
theorem Both.lt (h : Both D m G W E R Q A B k s u V w) (t j : Nat) (ht : okx m k (t, j)) : (adx D E R Q A B (t, j)).block < w.heap.size := Hp.lt h (t, j) ht
theorem Both.box (h : Both D m G W E R Q A B k s u V w) {j : Nat} (hj : j < m) : w.cell? ⟨D, j, none⟩ = some (.int .i64 (G j)) := (h.cell 11 j ⟨by show 11 < 12; omega, fun _ => hj, fun h' => by simp only at h'; omega, fun h' => absurd (by simp only; omega) h'⟩).1
theorem Both.below (h : Both D m G W E R Q A B k s u V w) (hb : Below w.heap.size w w') : Both D m G W E R Q A B k s u V w' := Hp.below h hb
theorem Both.drew (h : Both D m G W E R Q A B k s u V w) : Both D m G W E R Q A B k s u V w.drew := Hp.drew h
theorem tell_cases {P : Nat × Nat → Prop} (h0 : P (0, 0)) (h1 : P (1, 0)) (h2 : P (2, 0)) (h3 : ∀ j, j < k → P (3, j)) (h4 : ∀ j, j < k → P (4, j)) (h5 : P (5, 0)) (h6 : P (6, 0)) (h7 : P (7, 0)) (h8 : P (8, 0)) (h9 : ∀ j, j < k → P (9, j)) (h10 : ∀ j, j < k → P (10, j)) (h11 : ∀ j, j < m → P (11, j)) : ∀ i, okx m k i → P i := by
  rintro ⟨t, j⟩ ⟨a, d, b, c⟩
  simp only at a b c d
  rcases t with _ | _ | _ | _ | _ | _ | _ | _ | _ | _ | _ | _ | t
  · obtain rfl : j = 0 := c (by omega)
    exact h0
  · obtain rfl : j = 0 := c (by omega)
    exact h1
  · obtain rfl : j = 0 := c (by omega)
    exact h2
  · exact h3 j (b (by omega))
  · exact h4 j (b (by omega))
  · obtain rfl : j = 0 := c (by omega)
    exact h5
  · obtain rfl : j = 0 := c (by omega)
    exact h6
  · obtain rfl : j = 0 := c (by omega)
    exact h7
  · obtain rfl : j = 0 := c (by omega)
    exact h8
  · exact h9 j (b (by omega))
  · exact h10 j (b (by omega))
  · exact h11 j (d (by omega))
  · omega
theorem Both.now0 (h : Both D m G W E R Q A B k s u V w) (n : Int) : Both D m G W E R Q A B k { s with now := n } u V (w.setCell ⟨E, 0, none⟩ (.int .i64 n)) := by
  refine (Hp.store h (0, 0) (ok0 (by omega)) (.int .i64 n)).tell (tell_cases ?_ ?_ ?_ ?_ ?_ ?_ ?_ ?_ ?_ ?_ ?_ ?_) (fun _ _ => rfl) (fun r _ => rfl) <;> intros <;> simp [updA, cvx]
theorem Both.now1 (h : Both D m G W E R Q A B k s u V w) (n : Int) : Both D m G W E R Q A B k s { u with now := n } V (w.setCell ⟨Q, 0, none⟩ (.int .i64 n)) := by
  refine (Hp.store h (5, 0) (ok0 (by omega)) (.int .i64 n)).tell (tell_cases ?_ ?_ ?_ ?_ ?_ ?_ ?_ ?_ ?_ ?_ ?_ ?_) (fun _ _ => rfl) (fun r _ => rfl) <;> intros <;> simp [updA, cvx]
theorem Both.pin0 (h : Both D m G W E R Q A B k s u V w) {j : Nat} (hj : j < k) (n : Int) : Both D m G W E R Q A B k { s with pin := updA s.pin j n } u V (w.setCell ⟨R, j * 2, none⟩ (.int .i64 n)) := by
  refine (Hp.store h (3, j) (ok1 (by omega) hj) (.int .i64 n)).tell (tell_cases ?_ ?_ ?_ ?_ ?_ ?_ ?_ ?_ ?_ ?_ ?_ ?_) (fun _ _ => rfl) (fun r _ => rfl) <;> intros <;> simp [updA, cvx] <;> split <;> rfl
theorem Both.pin1 (h : Both D m G W E R Q A B k s u V w) {j : Nat} (hj : j < k) (n : Int) : Both D m G W E R Q A B k s { u with pin := updA u.pin j n } V (w.setCell ⟨A, j, none⟩ (.int .i64 n)) := by
  refine (Hp.store h (9, j) (ok1 (by omega) hj) (.int .i64 n)).tell (tell_cases ?_ ?_ ?_ ?_ ?_ ?_ ?_ ?_ ?_ ?_ ?_ ?_) (fun _ _ => rfl) (fun r _ => rfl) <;> intros <;> simp [updA, cvx] <;> split <;> rfl
theorem ywx0 (s u : Sta) (j : Nat) (xs : List (Int × Int)) : ∀ r : Bool × Nat, ywx { s with wt := updA s.wt j xs } u r = updA (ywx s u) (false, j) (xs.length, prs xs) r := by
  rintro ⟨b, i⟩
  unfold ywx updA
  cases b <;> by_cases e : i = j <;> simp [e]
theorem ywx1 (s u : Sta) (j : Nat) (xs : List (Int × Int)) : ∀ r : Bool × Nat, ywx s { u with wt := updA u.wt j xs } r = updA (ywx s u) (true, j) (xs.length, prs xs) r := by
  rintro ⟨b, i⟩
  unfold ywx updA
  cases b <;> by_cases e : i = j <;> simp [e]
theorem Both.list0 (h : Both D m G W E R Q A B k s u V w) {j : Nat} (hj : j < k) {w1 : World} {v' : Value} {xs : List (Int × Int)} (hr : Ran (V (false, j)) v' w w1) (hm : Mid w1 W.heap.size 61 2 v' xs.length (prs xs)) :
    Both D m G W E R Q A B k { s with wt := updA s.wt j xs } u (updA V (false, j) v') (w1.setCell ⟨R, j * 2 + 1, none⟩ v') := by
  refine (Hp.store (Hp.ran h (false, j) hj hr hm) (4, j) (ok1 (by omega) hj) v').tell (tell_cases ?_ ?_ ?_ ?_ ?_ ?_ ?_ ?_ ?_ ?_ ?_ ?_) (fun _ _ => rfl) (fun r _ => ywx0 s u j xs r) <;> intros <;> simp [updA, cvx]
theorem Both.list1 (h : Both D m G W E R Q A B k s u V w) {j : Nat} (hj : j < k) {w1 : World} {v' : Value} {xs : List (Int × Int)} (hr : Ran (V (true, j)) v' w w1) (hm : Mid w1 W.heap.size 64 2 v' xs.length (prs xs)) :
    Both D m G W E R Q A B k s { u with wt := updA u.wt j xs } (updA V (true, j) v') (w1.setCell ⟨B, j, none⟩ v') := by
  refine (Hp.store (Hp.ran h (true, j) hj hr hm) (10, j) (ok1 (by omega) hj) v').tell (tell_cases ?_ ?_ ?_ ?_ ?_ ?_ ?_ ?_ ?_ ?_ ?_ ?_) (fun _ _ => rfl) (fun r _ => ywx1 s u j xs r) <;> intros <;> simp [updA, cvx]
end
end Go.Proofs.Ytafedpphecfgnaa
