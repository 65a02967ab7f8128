/-
  Collect, Limbo, Advance, Now: what waits, and one less; conditions: who is a client.
-/
import Derived.Test.YtafedpphecfgnaaEx2
import Derived.Deep.QuietTactic
import Derived.BigQuiet
namespace Go.Proofs.Ytafedpphecfgnaa
open Go.RowKit Go.WideShapes Go.ChangeShapes
set_option linter.all false
theorem below_drewN (w : World) (n : Nat) : Below w.heap.size w (w.drewN n) := ⟨rfl, rfl, rfl, Nat.le_refl _, fun _ _ => rfl⟩
section
variable {N E R k : Nat} {lim now : Int} {V : Nat → Value} {X : Nat → List (Int × Int)} {w w' : World}
set_option maxRecDepth 100000 in
set_option maxHeartbeats 400000 in
theorem enow_any (h : Es N E R k lim now V X w) : Calls Try.prog 11 #[.pointer (some ⟨E, 0, none⟩)] w fun e w' => e = .returned (.int .i64 now) ∧ w' = w := by
  have h0 := h.c0
  clear h
  go_enter Try.func11, Try.ntmps11
  go_wp2
  go_ret
  exact ⟨rfl, rfl⟩
set_option maxRecDepth 100000 in
set_option maxHeartbeats 400000 in
theorem eadv_any (h : Es N E R k lim now V X w) (hn0 : 0 ≤ now) (hn9 : now < 1073741824) : Calls Try.prog 10 #[.pointer (some ⟨E, 0, none⟩), .int .i64 now] w fun e w' => e = .returned (.bool true) ∧ w' = w.setCell ⟨E, 0, none⟩ (.int .i64 (now + 1)) := by
  have h0 := h.c0
  have hf := h.f0
  have hn1 : ¬ now ≥ 1073741824 := by omega
  clear h
  go_enter Try.func10, Try.ntmps10
  go_wp2
  go_ret
  exact ⟨rfl, rfl⟩
set_option maxRecDepth 100000 in
set_option maxHeartbeats 400000 in
theorem limbo_in (h : Es N E R k lim now V X w) (j : Nat) (hj : j < k) : Calls Try.prog 13 #[.pointer (some ⟨E, 0, none⟩), .int .i64 j] w fun e w' => e = .returned (.int .i64 (X j).length) ∧ w' = w := by
  obtain ⟨A, c, hV⟩ := (h.own j hj).form
  have h2 := h.c2
  have cv := h.cv j hj
  rw [hV] at cv
  generalize hL : (X j).length = L at *
  have hj1 : (j : Int) < k := by omega
  have hj0 : (0 : Int) ≤ j := by omega
  have HH := Lib.hid h
  clear h hV hL
  go_enter Try.func13, Try.ntmps13
  go_wp2_with (first
    | (go_at_call 26; refine (ehas_in HH.out j hj).mono ?_; rintro e w2 ⟨rfl, rfl⟩)
    | fail)
  go_ret
  exact ⟨rfl, rfl⟩
set_option maxRecDepth 100000 in
set_option maxHeartbeats 400000 in
theorem collect_empty (h : Es N E R k lim now V X w) (j : Nat) (hj : j < k) (hx : X j = []) : Calls Try.prog 12 #[.pointer (some ⟨E, 0, none⟩), .int .i64 j] w fun e w' => e = .returned (.tuple #[.int .i64 0, .bool false]) ∧ Below w.heap.size w w' := by
  obtain ⟨A, c, hV⟩ := (h.own j hj).form
  have h2 := h.c2
  have cv := h.cv j hj
  rw [hV, hx] at cv
  simp only [List.length_nil] at cv
  have hj1 : (j : Int) < k := by omega
  have hj0 : (0 : Int) ≤ j := by omega
  have HH := Lib.hid h
  clear h hV hx
  go_enter Try.func12, Try.ntmps12
  go_wp2_with (first
    | (go_at_call 26; refine (ehas_in HH.out j hj).mono ?_; rintro e w2 ⟨rfl, rfl⟩)
    | fail)
  go_quiet (fail)
  go_wp2
  go_ret2
  exact ⟨rfl, below_drewN _ _⟩
set_option maxRecDepth 100000 in
set_option maxHeartbeats 800000 in
theorem collect_early (h : Es N E R k lim now V X w) (j : Nat) (hj : j < k) (r at_ : Int) (xs : List (Int × Int)) (hx : X j = (r, at_) :: xs) (hn : now - at_ < 2) (ha0 : 0 ≤ at_) (ha : at_ ≤ 1000000) (hn0 : 0 ≤ now) (hn9 : now ≤ 1000000) (hl9 : xs.length ≤ 1000) :
    Calls Try.prog 12 #[.pointer (some ⟨E, 0, none⟩), .int .i64 j] w fun e w' => e = .returned (.tuple #[.int .i64 0, .bool false]) ∧ Below w.heap.size w w' := by
  obtain ⟨A, c, hV⟩ := (h.own j hj).form
  have hm := h.own j hj
  have c0 := h.c0
  have h2 := h.c2
  have cv := h.cv j hj
  have fv := h.fv j hj
  rw [hV, hx] at cv
  rw [hV, hx] at hm
  rcases hm.2 with ⟨h', h0⟩ | ⟨g, off, cap, cur, h', _⟩
  · simp at h0
  · simp only [Value.slice.injEq, true_and] at h'
    obtain ⟨rfl, rfl⟩ := h'
    have k0 := hm.cells 0 _ rfl
    have k1 := hm.cells 1 _ rfl
    simp only [List.length_cons] at cv
    rw [Nat.add_zero] at k0
    generalize xs.length = L at *
    have hj1 : (j : Int) < k := by omega
    have hj0 : (0 : Int) ≤ j := by omega
    have hlp : (0 : Int) < (L : Int) + 1 := by omega
    have hln : ((L : Int) + 1 == 0) = false := by simp; omega
    have hd : decide (now - at_ < 2) = true := decide_eq_true hn
    have HH := Lib.hid h
    have HW : Hid (IntKind.i64.wrap (now - at_) = now - at_) := Lib.hid (IntWalk.i64_in _ (by omega))
    clear h hV hx hm
    go_enter Try.func12, Try.ntmps12
    go_wp2_with (first
      | (go_at_call 26; refine (ehas_in HH.out j hj).mono ?_; rintro e w2 ⟨rfl, rfl⟩)
      | fail)
    have hw := HW.out
    go_quiet (fail)
    clear hw
    go_wp2
    go_ret2
    exact ⟨rfl, below_drewN _ _⟩
set_option maxRecDepth 100000 in
set_option maxHeartbeats 800000 in
theorem collect_ok (h : Es N E R k lim now V X w) (j : Nat) (hj : j < k) (r at_ : Int) (xs : List (Int × Int)) (hx : X j = (r, at_) :: xs) (hn : 2 ≤ now - at_) (ha0 : 0 ≤ at_) (ha : at_ ≤ 1000000) (hn0 : 0 ≤ now) (hn9 : now ≤ 1000000) (hl9 : xs.length ≤ 1000) :
    Calls Try.prog 12 #[.pointer (some ⟨E, 0, none⟩), .int .i64 j] w fun e w' => e = .returned (.tuple #[.int .i64 r, .bool true]) ∧ ∃ v', Es N E R k lim now (upd V j v') (upd X j xs) w' ∧ Did E R (V j) v' w w' := by
  obtain ⟨A, c, hV⟩ := (h.own j hj).form
  have hm := h.own j hj
  have c0 := h.c0
  have h2 := h.c2
  have cv := h.cv j hj
  have fv := h.fv j hj
  rw [hV, hx] at cv
  rw [hV, hx] at hm
  rcases hm.2 with ⟨h', h0⟩ | ⟨g, off, cap, cur, h', _⟩
  · simp at h0
  · simp only [Value.slice.injEq, true_and] at h'
    obtain ⟨rfl, rfl⟩ := h'
    have k0 := hm.cells 0 _ rfl
    have k1 := hm.cells 1 _ rfl
    simp only [List.length_cons] at cv
    rw [Nat.add_zero] at k0
    have hcap : xs.length + 1 ≤ c := by
      rcases hm.2 with ⟨h', _⟩ | ⟨g', off', cap', cur', h', _, _, hnc, _⟩
      · simp at h'
      · simp only [Value.slice.injEq, true_and] at h'
        obtain ⟨_, rfl⟩ := h'
        simpa using hnc
    have hcut := hm.cut (k := 1) (by simp)
    have e1 : ((r, at_) :: xs).length - 1 = xs.length := by simp
    have e2 : (prs ((r, at_) :: xs)).drop (1 * 2) = prs xs := rfl
    rw [e1, e2] at hcut
    have hset : ∀ n, Es N E R k lim now (upd V j (.slice (if c = 1 then some ⟨g, off, none⟩ else (some (⟨g, off, none⟩ : Addr)).map (·.add (1 * 2))) xs.length (c - 1))) (upd X j xs) ((w.drewN n).setCell ⟨R, j * 2 + 1, none⟩ (.slice (if c = 1 then some ⟨g, off, none⟩ else (some (⟨g, off, none⟩ : Addr)).map (·.add (1 * 2))) xs.length (c - 1))) ∧ Did E R (V j) (.slice (if c = 1 then some ⟨g, off, none⟩ else (some (⟨g, off, none⟩ : Addr)).map (·.add (1 * 2))) xs.length (c - 1)) w ((w.drewN n).setCell ⟨R, j * 2 + 1, none⟩ (.slice (if c = 1 then some ⟨g, off, none⟩ else (some (⟨g, off, none⟩ : Addr)).map (·.add (1 * 2))) xs.length (c - 1))) := fun n => by
      refine h.setList j hj ⟨⟨rfl, rfl, rfl, Nat.le_refl _, fun _ _ _ => rfl⟩, .inl ?_⟩ (hcut.same fun _ _ => rfl)
      rw [hV]
      split <;> rfl
    have HS := Lib.hid hset
    clear hset hcut e1 e2
    generalize hLL : xs.length = L at *
    have hj1 : (j : Int) < k := by omega
    have hj0 : (0 : Int) ≤ j := by omega
    have hlp : (0 : Int) < (L : Int) + 1 := by omega
    have hln : ((L : Int) + 1 == 0) = false := by simp; omega
    have hd : decide (now - at_ < 2) = false := decide_eq_false (by omega)
    have HH := Lib.hid h
    have HW : Hid (IntKind.i64.wrap (now - at_) = now - at_) := Lib.hid (IntWalk.i64_in _ (by omega))
    have HL := Lib.hid hLL
    clear h hV hx hm hLL
    by_cases hc1 : c = 1
    · subst hc1
      obtain rfl : L = 0 := by omega
      go_enter Try.func12, Try.ntmps12
      go_wp2_with (first
        | (go_at_call 26; refine (ehas_in HH.out j hj).mono ?_; rintro e w2 ⟨rfl, rfl⟩)
        | fail)
      have hw := HW.out
      go_quiet (fail)
      clear hw
      go_wp2
      go_ret2
      exact ⟨rfl, _, HS.out nq⟩
    · go_enter Try.func12, Try.ntmps12
      go_wp2_with (first
        | (go_at_call 26; refine (ehas_in HH.out j hj).mono ?_; rintro e w2 ⟨rfl, rfl⟩)
        | fail)
      have hw := HW.out
      go_quiet (fail)
      clear hw
      go_wp2
      go_ret2
      exact ⟨rfl, _, by have := HS.out nq; rw [if_neg hc1] at this; exact this⟩
end
end Go.Proofs.Ytafedpphecfgnaa
