/-
  Union, Inter, Minus, rising; conditions: lengths.
-/
import Derived.Test.YthgjpdbajmfclaaMga
namespace Go.Proofs.Ythgjpdbajmfclaa
open Go.RowKit Go.WideShapes Go.ChangeShapes
set_option linter.all false
/-- A list of ints comes back, in memory that can be read; what was stays. -/
def LP (L : List Int) (w : World) (e : Ending) (w' : World) : Prop := ∃ A n c, e = .returned (.slice A n c) ∧ SI w' w'.heap.size A n c L ∧ Below w.heap.size w w'
theorem Mid.si {w : World} {N n c : Nat} {A : Option Addr} {l : List Int} (h : Mid w N 3 1 (.slice A n c) n (ks .i64 l)) : SI w w.heap.size A n c l := ⟨h.room.1, h.room.2, fun e => by have := h.nocap e; have := h.room.1; omega, h.reads⟩
theorem LP.of {L : List Int} {w w' : World} {N m : Nat} {v : Value} {e : Ending} (he : e = .returned v) (h : Mid w' N 3 1 v m (ks .i64 L)) (hb : Below w.heap.size w w') : LP L w e w' := by
  obtain ⟨A, c, rfl⟩ := h.form
  exact ⟨A, _, c, he, h.si, hb⟩
theorem union_any (A : Option Addr) (n c : Nat) (ls : List Ar) (w : World) (h : LL w w.heap.size A n c ls) (hn : n ≤ 100) (hU : (uni (ls.map Ar.l)).length ≤ 100000) :
    Calls Try.prog 7 #[.slice A n c] w (LP (uni (ls.map Ar.l)) w) := by
  have HLL := Lib.hid h
  clear h
  obtain ⟨U, hU'⟩ : ∃ U, U = uni (ls.map Ar.l) := ⟨_, rfl⟩
  have HUU := Lib.hid hU'
  have HT : Hid (U.take (9223372036854775807 : Int).toNat = U) := Lib.hid (List.take_of_length_le (by rw [hU']; have : (9223372036854775807 : Int).toNat = 9223372036854775807 := rfl; omega))
  have HU9 := Lib.hid hU
  rw [← hU'] at hU ⊢
  clear hU' hU
  go_enter Try.func7, Try.ntmps7
  go_wp2_with (first
    | (go_at_call 13; refine (first_any 9223372036854775807 A n c ls _ HLL.out hn HU9.out).mono ?_
       rintro e w1 ⟨v1, rfl, hm1, hb1⟩
       rw [← HUU.out, HT.out] at hm1
       have HM := Lib.hid hm1
       have HB := Lib.hid hb1
       clear hm1 hb1)
    | fail)
  go_ret
  exact LP.of rfl HM.out HB.out
theorem minus_any (A D : Option Addr) (n c m d : Nat) (a b : List Int) (w : World) (ha : SI w w.heap.size A n c a) (hb : SI w w.heap.size D m d b) (hn : n ≤ 2000) (hm : m ≤ 2000) :
    Calls Try.prog 11 #[.slice A n c, .slice D m d] w (LP (flt b false (asc a)) w) := by
  go_enter Try.func11, Try.ntmps11
  go_wp2_with (first
    | (go_at_call 19; refine (flt_any A D n c m d a b false w ha hb hn hm).mono ?_
       rintro e w1 ⟨v1, rfl, hm1, hb1⟩
       have HM := Lib.hid hm1
       have HB := Lib.hid hb1
       clear hm1 hb1)
    | fail)
  go_ret
  exact LP.of rfl HM.out HB.out
def interL : List (List Int) → List Int
  | [] => []
  | a :: r => r.foldl (fun R b => flt b true (asc R)) (asc a)
theorem flt_len (b : List Int) (o : Bool) (l : List Int) : (flt b o (asc l)).length ≤ l.length := by
  unfold flt
  exact Nat.le_trans (List.length_filter_le _ _) (asc_len _ l (Nat.le_refl _))
theorem foldl_take {ls : List Ar} {k : Nat} (hk : k < ls.length) (R : List Int) : ((ls.take (k + 1)).map Ar.l).foldl (fun R b => flt b true (asc R)) R = flt (ls.getD k dA).l true (asc (((ls.take k).map Ar.l).foldl (fun R b => flt b true (asc R)) R)) := by
  have e : ls.take (k + 1) = ls.take k ++ [ls.getD k dA] := by
    rw [List.take_succ_eq_append_getElem hk, List.getD_eq_getElem?_getD, List.getElem?_eq_getElem hk]; rfl
  rw [e, List.map_append, List.foldl_append]; rfl
theorem inter_nil (w : World) : Calls Try.prog 10 #[.slice none 0 0] w (LP [] w) := by
  go_enter Try.func10, Try.ntmps10
  go_wp2
  go_ret
  exact ⟨none, 0, 0, rfl, SI.nil _ _, Below.refl _ _⟩
theorem LL.tail {w : World} {B n c : Nat} {A : Option Addr} {a : Ar} {ls : List Ar} (h : LL w B A (n + 1) c (a :: ls)) : LL w B (if c = 1 then A else A.map (·.add 1)) n (c - 1) ls := by
  refine ⟨by have := h.1; omega, by have := h.2.1; omega, fun e => ?_, ?_, fun e he => h.2.2.2.2 e (by simp [he])⟩
  · split at e
    · have := h.1; omega
    · have : A = none := by cases A with | none => rfl | some a => cases e
      have := h.2.2.1 this
      have := h.1
      omega
  · have := h.2.2.2.1.cut (k := 1) (cap := c) (by omega) h.1
    simpa using this
theorem add1_add (ad : Addr) (k : Nat) : (ad.add 1).add k = ⟨ad.block, ad.off + 1 + k, none⟩ := by
  rw [add_of_add]; unfold Addr.add; rw [if_neg (by omega)]; simp <;> omega
set_option maxRecDepth 100000 in
set_option maxHeartbeats 800000 in
theorem inter_any (A : Option Addr) (n c : Nat) (a : Ar) (ls : List Ar) (w : World) (h : LL w w.heap.size A (n + 1) c (a :: ls)) (hn : n ≤ 100) (ha : a.n ≤ 2000) (hls : ∀ e ∈ ls, e.n ≤ 2000) :
    Calls Try.prog 10 #[.slice A (n + 1) c] w (LP (interL ((a :: ls).map Ar.l)) w) := by
  have HLL := Lib.hid h
  have HLS := Lib.hid hls
  have HT := Lib.hid h.tail
  have HLN : Hid (ls.length = n) := Lib.hid (by have := h.len; simp at this; exact this)
  obtain ⟨ad, rfl, h0, hs0⟩ := h.at_ (k := 0) (by omega)
  have h00 : w.cell? ad = some (.slice a.A a.n a.c) := by simpa [Addr.add] using h0
  have HS0 : Hid (SI w w.heap.size a.A a.n a.c a.l) := Lib.hid hs0
  have hc1 : (1 : Int) ≤ ((n + 1 : Nat) : Int) := by omega
  have hcc : n + 1 ≤ c := h.1
  have hc2 : ((n + 1 : Nat) : Int) ≤ (c : Int) := by omega
  have hnz : ¬ (((n + 1 : Nat) : Int) = 0) := by omega
  obtain ⟨Q, hQ⟩ : ∃ Q, Q = interL ((a :: ls).map Ar.l) := ⟨_, rfl⟩
  have HQ : Hid (Q = (ls.map Ar.l).foldl (fun R b => flt b true (asc R)) (asc a.l)) := Lib.hid (by rw [hQ]; rfl)
  rw [← hQ]
  have hal : a.l.length = a.n := hs0.len
  have HAL := Lib.hid hal
  clear h h0 hs0 hQ hls hal
  obtain ⟨aA, an, ac, al⟩ := a
  simp only at h00 ha
  by_cases hc : c = 1
  · have hn0 : n = 0 := by omega
    subst hn0 hc
    have hls0 : ls = [] := List.eq_nil_of_length_eq_zero HLN.out
    have HQ0 : Hid (Q = asc al) := Lib.hid (by rw [HQ.out, hls0]; rfl)
    go_enter Try.func10, Try.ntmps10
    go_wp2_with (first
      | (go_at_call 18; refine (asc_any aA an ac al _ HS0.out ha).mono ?_
         rintro e w1 ⟨v1, rfl, hm1, hb1⟩
         rw [← HQ0.out] at hm1
         obtain ⟨A1, c1, rfl⟩ := hm1.form
         have HM := Lib.hid hm1
         have HB := Lib.hid hb1
         clear hm1 hb1)
      | fail)
    go_loop [3, 16] (fun v i => v = .slice A1 Q.length c1 ∧ i = .int .i64 0) (fun _ _ => 0)
    case atStart => exact ⟨rfl, rfl⟩
    case round =>
      obtain ⟨rfl, rfl⟩ := hrel
      go_wp2
      go_ret
      exact LP.of rfl HM.out HB.out
  · have hT := HT.out
    rw [if_neg hc] at hT
    have HT1 : Hid (LL w w.heap.size (some (ad.add 1)) n (c - 1) ls) := Lib.hid hT
    clear hT
    go_enter Try.func10, Try.ntmps10
    go_wp2_with (first
      | (go_at_call 18; refine (asc_any aA an ac al _ HS0.out ha).mono ?_
         rintro e w1 ⟨v1, rfl, hm1, hb1⟩
         obtain ⟨A1, c1, rfl⟩ := hm1.form
         have HM := Lib.hid hm1.si
         have HB := Lib.hid hb1
         clear hm1 hb1)
      | fail)
    have hq2 : (asc al).length ≤ 2000 := by have := asc_len _ al (Nat.le_refl _); have := HAL.out; omega
    go_loopw [3, 16] (fun v i wr => ∃ (k : Nat) (A' : Option Addr) (n' c' : Nat) (R : List Int), v = .slice A' n' c' ∧ i = .int .i64 k ∧ k ≤ n ∧ n' ≤ 2000 ∧ Hid (SI wr wr.heap.size A' n' c' R ∧ Below w.heap.size w wr ∧ R = ((ls.take k).map Ar.l).foldl (fun R b => flt b true (asc R)) (asc al))) (fun _ i _ => n - (intOf i).toNat)
    case atStart => exact ⟨0, A1, _, c1, asc al, rfl, rfl, Nat.zero_le _, hq2, Lib.hid ⟨HM.out, HB.out, rfl⟩⟩
    case round =>
      obtain ⟨k, A', n', c', R, rfl, rfl, hk, hn', HI⟩ := hrel
      by_cases hlt : k < n
      · have hkl : k < ls.length := by rw [HLN.out]; exact hlt
        obtain ⟨ad1, e1, hcell, hsi⟩ := (HT1.out.below HI.out.2.1).at_ hlt
        injection e1 with e1
        subst e1
        have hen : (ls.getD k dA).n ≤ 2000 := HLS.out _ (by rw [List.getD_eq_getElem?_getD, List.getElem?_eq_getElem hkl]; exact List.getElem_mem hkl)
        have HFT := Lib.hid (foldl_take hkl (asc al))
        generalize ls.getD k dA = e at *
        obtain ⟨eA, en, ec, el⟩ := e
        simp only [Ar.v] at hcell
        rw [add1_add] at hcell
        simp only at hsi hen
        have HSE := Lib.hid (hsi.more HI.out.2.1.size)
        have HLR := Lib.hid HI.out.1.len
        clear hsi hkl
        go_wp2_with (first
          | (go_at_call 19; refine (flt_any A' eA n' c' en ec R el true _ HI.out.1 HSE.out hn' hen).mono ?_
             rintro e w4 ⟨v4, rfl, hm4, hb4⟩
             obtain ⟨A4, c4, rfl⟩ := hm4.form
             have HM4 := Lib.hid hm4.si
             have HB4 := Lib.hid (after HI.out.2.1 hb4)
             have hl4 : (flt el true (asc R)).length ≤ 2000 := (by have := flt_len el true R; have := HLR.out; omega)
             clear hm4 hb4)
          | fail)
        go_roundw
        case rel => exact ⟨k + 1, A4, _, c4, flt el true (asc R), rfl, by go_num, by omega, hl4, Lib.hid ⟨HM4.out, HB4.out, by rw [HFT.out, ← HI.out.2.2]⟩⟩
        case measure => simp only [intOf]; omega
      · obtain rfl : n = k := by omega
        have HD : Hid (R = Q) := Lib.hid (by rw [HI.out.2.2, HQ.out, List.take_of_length_le (by rw [HLN.out]; exact Nat.le_refl _)])
        go_wp2
        go_ret
        exact ⟨A', n', c', rfl, by rw [← HD.out]; exact HI.out.1, HI.out.2.1⟩
end Go.Proofs.Ythgjpdbajmfclaa
