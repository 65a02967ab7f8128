/-
  The reference's Seek, at; conditions: lengths.
-/
import Derived.Test.YtokjeglhmmijfaaPsp
namespace Go.Proofs.Ytokjeglhmmijfaa
open Go.RowKit Go.WideShapes Go.ChangeShapes
set_option linter.all false
theorem fnd_step {x : Int} : ∀ {l : List Nat} {k : Nat}, (∀ i, i < k → ((l.getD i 0 : Nat) : Int) < x) → k < l.length → x ≤ ((l.getD k 0 : Nat) : Int) → fndI x l = some (l.getD k 0)
  | [], k, _, h, _ => by simp at h
  | b :: r, 0, _, _, h => by
    rw [List.getD_cons_zero] at h ⊢
    have h1 : ¬ (b : Int) < x := by omega
    simp [fndI, h1]
  | b :: r, k + 1, h1, h2, h3 => by
    have h4 := h1 0 (by omega)
    rw [List.getD_cons_zero] at h4
    rw [List.getD_cons_succ] at h3 ⊢
    have := fnd_step (x := x) (l := r) (k := k) (fun i hi => by have := h1 (i + 1) (by omega); rwa [List.getD_cons_succ] at this) (by simpa using h2) h3
    simp only [fndI, if_pos h4]
    exact this
set_option maxRecDepth 100000 in
set_option maxHeartbeats 1600000 in
theorem refSeek_any (A : Option Addr) (n c : Nat) (L : List (List Nat)) (ws : List Ar) (x : Int) (w : World) (h : LK .i64 w w.heap.size A n c ws) (hl : ws.map Ar.l = L.map nb) (hR : RL L) (hn : n ≤ 1000000) :
    Calls Try.prog 28 #[.slice A n c, .int .i64 x] w (SeekP (fndI x L.flatten) w) := by
  have HC : Hid (Calls Try.prog 27 #[.slice A n c] w (IdsP L.flatten w)) := Lib.hid (refIds_any A n c L ws w h hl hR hn)
  have hlen : L.flatten.length ≤ 16 * n := by
    have := flat_le (fun b hb => (hR.len b hb).2)
    have e : L.length = n := by have := congrArg List.length hl; rw [List.length_map, List.length_map, h.len] at this; exact this.symm
    rwa [e] at this
  generalize L.flatten = l at *
  obtain ⟨o, ho⟩ : ∃ o, o = fndI x l := ⟨_, rfl⟩
  rw [← ho]
  have HO := Lib.hid ho
  clear h hl hR ho
  go_enter Try.func28, Try.ntmps28
  go_wp2_with (first
    | (go_at_call 27; refine HC.out.mono ?_; rintro e w2 ⟨A1, c1, rfl, hb2, hm2⟩
       have HB2 := Lib.hid hb2
       have HS := Lib.hid hm2.sk
       have HCP := Lib.hid hm2.caps
       clear hb2 hm2)
    | fail)
  obtain ⟨m, hm⟩ : ∃ m, m = l.length := ⟨_, rfl⟩
  have HM := Lib.hid hm
  rw [← hm] at hlen HS HCP ⊢
  have hm9 : m ≤ 16000000 := by omega
  clear hm
  go_loopw [7, 11] (fun _ i v1 => ∃ k : Nat, i = .int .i64 k ∧ k ≤ m ∧ Hid (∀ i, i < k → ((l.getD i 0 : Nat) : Int) < x) ∧ v1 = w2) (fun _ i _ => m - (intOf i).toNat)
  case atStart => exact ⟨0, rfl, Nat.zero_le _, Lib.hid (fun i hi => by omega), rfl⟩
  case round =>
    obtain ⟨k, rfl, hk, HN, rfl⟩ := hrel
    have k0 : (0 : Int) ≤ k := by omega
    by_cases hlt : k < m
    · have hkl : k < l.length := by rw [← HM.out]; exact hlt
      obtain ⟨ad, rfl, g0⟩ := HS.out.2.2.2.kat hlt
      rw [nb_get hkl] at g0
      have hst := fnd_step HN.out hkl
      have hN2 : ∀ i, i < k + 1 → ((l.getD k 0 : Nat) : Int) < x → ((l.getD i 0 : Nat) : Int) < x := fun i hi h => by
        by_cases e : i = k
        · rw [e]; exact h
        · exact HN.out i (by omega)
      have HN2 := Lib.hid hN2
      obtain ⟨y, hy⟩ : ∃ y, y = l.getD k 0 := ⟨_, rfl⟩
      rw [← hy] at g0 hst HN2
      clear hN2
      by_cases hyx : (y : Int) ≥ x
      · obtain rfl : o = some y := by rw [HO.out]; exact hst hyx
        clear hst hy hkl
        go_wp2
        refine bodyPost_ret (v := .tuple #[.int .i64 (y : Int), .bool true]) (by simp [results, Try.results28, go_sem]) rfl ⟨rfl, HB2.out⟩
      · have HN3 : Hid (∀ i, i < k + 1 → ((l.getD i 0 : Nat) : Int) < x) := Lib.hid (fun i hi => HN2.out i hi (by omega))
        clear hst hy hkl
        go_wp2
        go_roundw
        case rel => exact ⟨k + 1, by go_num, by omega, HN3, by trivial⟩
        case measure => simp only [intOf]; omega
    · obtain rfl : m = k := by omega
      obtain rfl : o = none := by
        rw [HO.out]
        refine fnd_none fun z hz => ?_
        obtain ⟨i, hi, e1⟩ := List.getElem_of_mem hz
        have := HN.out i (by rw [HM.out]; exact hi)
        rw [List.getD_eq_getElem?_getD, List.getElem?_eq_getElem hi, Option.getD_some, e1] at this; exact this
      go_wp2
      refine bodyPost_ret (v := .tuple #[.int .i64 0, .bool false]) (by simp [results, Try.results28, go_sem]) rfl ⟨rfl, HB2.out⟩
set_option maxRecDepth 100000 in
set_option maxHeartbeats 1600000 in
theorem refAt_any (A : Option Addr) (n c : Nat) (L : List (List Nat)) (ws : List Ar) (x : Int) (w : World) (h : LK .i64 w w.heap.size A n c ws) (hl : ws.map Ar.l = L.map nb) (hR : RL L) (hn : n ≤ 1000000) :
    Calls Try.prog 41 #[.slice A n c, .int .i64 x] w fun e w' => e = .returned (.int .i64 ((kOf x L : Nat) : Int)) ∧ w = w' := by
  have HK := Lib.hid h
  have HEL : Hid (∀ k, k < n → (ws.getD k dA).l = nb (L.getD k [])) := Lib.hid (fun k hk => h.el hl k hk)
  have HLN : Hid (L.length = n) := Lib.hid (by have := congrArg List.length hl; rw [List.length_map, List.length_map, h.len] at this; exact this.symm)
  have HR := Lib.hid hR
  have hle : cntL x L ≤ n := by have := cntL_le x L; rw [HLN.out] at this; exact this
  obtain ⟨q, hq⟩ : ∃ q, q = cntL x L := ⟨_, rfl⟩
  have HQ := Lib.hid hq
  rw [← hq] at hle
  have HKO : Hid (q - 1 = kOf x L) := Lib.hid (by rw [hq]; rfl)
  rw [← HKO.out]
  clear h hl hR hq
  go_enter Try.func41, Try.ntmps41
  go_wp2
  go_loopw [5, 6, 9] (fun s _ i v1 => ∃ (j m : Nat), i = .int .i64 j ∧ j ≤ n ∧ s = .int .i64 m ∧ m = min q j - 1 ∧ v1 = w) (fun _ _ i _ => n - (intOf i).toNat)
  case atStart => exact ⟨0, 0, rfl, Nat.zero_le _, rfl, by omega, rfl⟩
  case round =>
    obtain ⟨j, m, rfl, hj, rfl, hm, rfl⟩ := hrel
    have HM := Lib.hid hm
    clear hm
    have j0 : (0 : Int) ≤ j := by omega
    by_cases hlt : j < n
    · have hjl : j < L.length := by rw [HLN.out]; exact hlt
      obtain ⟨ad, rfl, g0, s0⟩ := HK.out.at_ hlt
      rw [HEL.out j hlt] at s0
      obtain ⟨e1, he1⟩ : ∃ e1, e1 = ws.getD j dA := ⟨_, rfl⟩
      rw [← he1] at g0 s0
      obtain ⟨B1, m1, d1, l1⟩ := e1
      replace g0 : _ = some (Value.slice B1 m1 d1) := g0
      replace s0 : SK .i64 wr wr.heap.size B1 m1 d1 (nb (L.getD j [])) := s0
      have hb1 := (HR.out.len _ (getD_mem hjl)).1
      have hml : (L.getD j []).length = m1 := by have := s0.len; rwa [nb_len] at this
      have hm1 : 0 < m1 := by omega
      have hm2 : (0 : Int) < m1 := by omega
      obtain ⟨ad1, rfl, g2⟩ := s0.2.2.2.kat hm1
      rw [nb_get (by omega)] at g2
      have hc := cntL_iff (x := x) HR.out hjl
      rw [← HQ.out] at hc
      obtain ⟨y, hy⟩ : ∃ y, y = (L.getD j []).getD 0 0 := ⟨_, rfl⟩
      rw [← hy] at g2
      have hy2 : (L.getD j []).headD 0 = y := by
        rw [hy]
        cases L.getD j [] with
        | nil => rfl
        | cons a b => rfl
      rw [hy2] at hc
      have g3 : wr.cell? ad1 = some (.int .i64 (y : Int)) := by simpa [Addr.add] using g2
      clear he1 s0 hb1 hml hy hy2 g2 hjl
      by_cases hyx : (y : Int) ≤ x
      · have hcq := hc.2 hyx
        have hmj : j = min q (j + 1) - 1 := by omega
        have HMJ := Lib.hid hmj
        clear hc hcq hmj
        go_wp2
        go_roundw
        case rel => exact ⟨j + 1, j, by go_num, by omega, rfl, HMJ.out, by trivial⟩
        case measure => simp only [intOf]; omega
      · have hcq : ¬ j < q := fun h => hyx (hc.1 h)
        have hmj : m = min q (j + 1) - 1 := by have := HM.out; omega
        have HMJ := Lib.hid hmj
        clear hc hcq hmj
        go_wp2
        go_roundw
        case rel => exact ⟨j + 1, m, by go_num, by omega, rfl, HMJ.out, by trivial⟩
        case measure => simp only [intOf]; omega
    · obtain rfl : n = j := by omega
      have hE : m = q - 1 := by have := HM.out; omega
      subst hE
      go_wp2
      go_ret
      exact ⟨rfl, by trivial⟩
end Go.Proofs.Ytokjeglhmmijfaa
