/-
  MergeSelf: a list with itself, with none, without itself; condition: what can be read.
-/
import Derived.Test.YthgjpdbajmfclaaMgd
import Derived.Test.YthgjpdbajmfclaaRuns
namespace Go.Proofs.Ythgjpdbajmfclaa
open Go.RowKit Go.WideShapes Go.ChangeShapes
set_option linter.all false
theorem SI.eq {w : World} {B n c : Nat} {A : Option Addr} {l m : List Int} (h : SI w B A n c l) (e : l = m) : SI w B A n c m := e ▸ h
theorem SI.n9 {w : World} {B n c : Nat} {A : Option Addr} {l : List Int} (h : SI w B A n c l) : n ≤ 9223372036854775807 := by
  have h1 := h.1
  have h2 := h.2.1
  unfold maxLen at h2
  omega
theorem SI.le {w : World} {B n c k : Nat} {A : Option Addr} {l : List Int} (h : SI w B A n c l) (hk : l.length ≤ k) : n ≤ k := by rw [← h.len]; exact hk
theorem SI.of {w : World} {B n c : Nat} {A : Option Addr} {l : List Int} (r : Reads w B 1 A n (ks .i64 l)) (h : n ≤ c) (m : c ≤ maxLen) : SI w B A n c l := ⟨h, m, fun e => by
    rcases Nat.eq_zero_or_pos n with h0 | h0
    · exact h0
    · obtain ⟨ad, e', _⟩ := r.2 h0
      exact absurd (e.symm.trans e') (by simp), r⟩
structure SelfF (l X : List Int) : Prop where
  u1 : uni [l] = X
  r : asc l = X
  u3 : uni [X, X, X] = X
  i2 : interL [X, X] = X
  i1 : interL [X] = X
  u2 : uni [X, []] = X
  i0 : interL [X, []] = []
  m1 : flt X false (asc X) = []
  m2 : flt [] false (asc X) = X
  m3 : flt X false (asc []) = []
  len : X.length ≤ 60
theorem selfF {l : List Int} (h : l.length ≤ 60) : SelfF l (asc l) := by
  have hS := asc_sorted l
  have e : ∀ y, y ∈ asc [] ↔ False := fun y => by rw [asc_nil]; simp
  refine ⟨uni1 l, rfl, ?_, ?_, asc_asc l, ?_, ?_, ?_, ?_, ?_, Nat.le_trans (asc_len' l) h⟩
  · exact sorted_eq (uni_sorted _) hS fun y => by rw [uni3_mem, asc_asc]; simp
  · exact sorted_eq (inter2_sorted _ _) hS fun y => by rw [inter2_mem, asc_asc]; simp
  · exact sorted_eq (uni_sorted _) hS fun y => by rw [uni2_mem, asc_asc, e]; simp
  · exact sorted_eq (inter2_sorted _ _) List.Pairwise.nil fun y => by rw [inter2_mem, e]; simp
  · exact sorted_eq (minus_sorted _ _) List.Pairwise.nil fun y => by rw [minus_mem]; simp
  · exact sorted_eq (minus_sorted _ _) hS fun y => by rw [minus_mem, asc_asc, e]; simp
  · exact sorted_eq (minus_sorted _ _) List.Pairwise.nil fun y => by rw [minus_mem, e]; simp
set_option maxRecDepth 100000 in
set_option maxHeartbeats 3200000 in
theorem self_any (A : Option Addr) (n c : Nat) (l : List Int) (w : World) (h : SI w w.heap.size A n c l) :
    Calls Try.prog 3 #[.slice A n c] w fun e w' => e = .returned (.bool true) ∧ Below w.heap.size w w' := by
  have HB : Hid (Below w.heap.size w w) := Lib.hid (Below.refl _ _)
  by_cases hn : n ≤ 60
  · have HNl : Hid (n ≤ 2000) := Lib.hid (by omega)
    have hF := selfF (l := l) (by rw [h.len]; exact hn)
    obtain ⟨X, hX⟩ : ∃ X, X = asc l := ⟨_, rfl⟩
    rw [← hX] at hF
    clear hX
    have HF := Lib.hid hF
    have HN0 : Hid (X.length ≤ 2000) := Lib.hid (by have := hF.len; omega)
    have HN1 : Hid ((uni [l]).length ≤ 100000) := Lib.hid (by rw [hF.u1]; have := hF.len; omega)
    have HN3 : Hid ((uni [X, X, X]).length ≤ 100000) := Lib.hid (by rw [hF.u3]; have := hF.len; omega)
    have HN2 : Hid ((uni [X, []]).length ≤ 100000) := Lib.hid (by rw [hF.u2]; have := hF.len; omega)
    have Hl := Lib.hid h
    clear h hF
    have hgt : ¬ (n : Int) > 60 := by omega
    go_enter Try.func3, Try.ntmps3
    have R0 : Hid True := Lib.hid trivial
    have R1 : Hid True := Lib.hid trivial
    have R2 : Hid True := Lib.hid trivial
    have R3 : Hid True := Lib.hid trivial
    have R4 : Hid True := Lib.hid trivial
    have R5 : Hid True := Lib.hid trivial
    have R6 : Hid True := Lib.hid trivial
    have R7 : Hid True := Lib.hid trivial
    have R8 : Hid True := Lib.hid trivial
    have R9 : Hid True := Lib.hid trivial
    have R10 : Hid True := Lib.hid trivial
    have R11 : Hid True := Lib.hid trivial
    have R12 : Hid True := Lib.hid trivial
    have R13 : Hid True := Lib.hid trivial
    have R14 : Hid True := Lib.hid trivial
    have R15 : Hid True := Lib.hid trivial
    have R16 : Hid True := Lib.hid trivial
    have R17 : Hid True := Lib.hid trivial
    have R18 : Hid True := Lib.hid trivial
    go_wp2_with (first
        | (go_at_call 7; clear R0; refine (union_any _ 1 1 _ _ (LL.lit [⟨A, n, c, l⟩] #[.slice A n c] rfl (by simp) (by intro e he; simp only [List.mem_cons, List.not_mem_nil, or_false] at he; rcases he with rfl <;> first | exact Hl.out)) (by decide) HN1.out).mono ?_
           rintro e w0 ⟨A0, n0, c0, rfl, hs0, hb0⟩
           have hs0' := hs0.eq HF.out.u1
           replace Hl := Lib.hid ((Hl.out.onA _).on hb0)
           replace HB := Lib.hid (after (after HB.out (below_alloc _ _)) hb0)
           have HX := Lib.hid hs0'
           clear hs0 hs0' hb0)
        | (go_at_call 9; clear R1; refine (rising_any _ _ _ _ _ Hl.out HNl.out).mono ?_
           rintro e w1 ⟨A1, n1, c1, rfl, hs1, hb1⟩
           have hs1' := hs1.eq HF.out.r
           replace Hl := Lib.hid (Hl.out.on hb1)
           replace HX := Lib.hid (HX.out.on hb1)
           replace HB := Lib.hid (after HB.out hb1)
           have Hr := Lib.hid hs1'
           clear hs1 hs1' hb1)
        | (go_at_call 8; clear R2; refine (same_i _ _ _ _ _ _ _ _ _ _ HX.out.2.2.2 Hr.out.2.2.2 HX.out.n9 Hr.out.n9).mono ?_
           rintro e w2 ⟨rfl, hb2⟩
           rw [eqB_true rfl]
           replace Hl := Lib.hid (Hl.out.on hb2)
           replace HX := Lib.hid (HX.out.on hb2)
           replace Hr := Lib.hid (Hr.out.on hb2)
           replace HB := Lib.hid (after HB.out hb2)
           clear hb2
           clear Hr
           clear Hl)
        | (go_at_call 7; clear R3; refine (union_any _ 3 3 _ _ (LL.lit [⟨A0, n0, c0, X⟩, ⟨A0, n0, c0, X⟩, ⟨A0, n0, c0, X⟩] #[.slice A0 n0 c0, .slice A0 n0 c0, .slice A0 n0 c0] rfl (by simp) (by intro e he; simp only [List.mem_cons, List.not_mem_nil, or_false] at he; rcases he with rfl | rfl | rfl <;> first | exact HX.out)) (by decide) HN3.out).mono ?_
           rintro e w3 ⟨A3, n3, c3, rfl, hs3, hb3⟩
           have hs3' := hs3.eq HF.out.u3
           replace HX := Lib.hid ((HX.out.onA _).on hb3)
           replace HB := Lib.hid (after (after HB.out (below_alloc _ _)) hb3)
           have Hr := Lib.hid hs3'
           clear hs3 hs3' hb3)
        | (go_at_call 8; clear R4; refine (same_i _ _ _ _ _ _ _ _ _ _ Hr.out.2.2.2 HX.out.2.2.2 Hr.out.n9 HX.out.n9).mono ?_
           rintro e w4 ⟨rfl, hb4⟩
           rw [eqB_true rfl]
           replace HX := Lib.hid (HX.out.on hb4)
           replace Hr := Lib.hid (Hr.out.on hb4)
           replace HB := Lib.hid (after HB.out hb4)
           clear hb4
           clear Hr)
        | (go_at_call 10; clear R5; refine (inter_any _ 1 2 _ _ _ (LL.lit [⟨A0, n0, c0, X⟩, ⟨A0, n0, c0, X⟩] #[.slice A0 n0 c0, .slice A0 n0 c0] rfl (by simp) (by intro e he; simp only [List.mem_cons, List.not_mem_nil, or_false] at he; rcases he with rfl | rfl <;> first | exact HX.out)) (by decide) (HX.out.le HN0.out) (by intro e he; simp only [List.mem_cons, List.not_mem_nil, or_false] at he; subst he; exact (HX.out.le HN0.out))).mono ?_
           rintro e w5 ⟨A5, n5, c5, rfl, hs5, hb5⟩
           have hs5' := hs5.eq HF.out.i2
           replace HX := Lib.hid ((HX.out.onA _).on hb5)
           replace HB := Lib.hid (after (after HB.out (below_alloc _ _)) hb5)
           have Hr := Lib.hid hs5'
           clear hs5 hs5' hb5)
        | (go_at_call 8; clear R6; refine (same_i _ _ _ _ _ _ _ _ _ _ Hr.out.2.2.2 HX.out.2.2.2 Hr.out.n9 HX.out.n9).mono ?_
           rintro e w6 ⟨rfl, hb6⟩
           rw [eqB_true rfl]
           replace HX := Lib.hid (HX.out.on hb6)
           replace Hr := Lib.hid (Hr.out.on hb6)
           replace HB := Lib.hid (after HB.out hb6)
           clear hb6
           clear Hr)
        | (go_at_call 10; clear R7; refine (inter_any _ 0 1 _ _ _ (LL.lit [⟨A0, n0, c0, X⟩] #[.slice A0 n0 c0] rfl (by simp) (by intro e he; simp only [List.mem_cons, List.not_mem_nil, or_false] at he; rcases he with rfl <;> first | exact HX.out)) (by decide) (HX.out.le HN0.out) (by intro e he; cases he)).mono ?_
           rintro e w7 ⟨A7, n7, c7, rfl, hs7, hb7⟩
           have hs7' := hs7.eq HF.out.i1
           replace HX := Lib.hid ((HX.out.onA _).on hb7)
           replace HB := Lib.hid (after (after HB.out (below_alloc _ _)) hb7)
           have Hr := Lib.hid hs7'
           clear hs7 hs7' hb7)
        | (go_at_call 8; clear R8; refine (same_i _ _ _ _ _ _ _ _ _ _ Hr.out.2.2.2 HX.out.2.2.2 Hr.out.n9 HX.out.n9).mono ?_
           rintro e w8 ⟨rfl, hb8⟩
           rw [eqB_true rfl]
           replace HX := Lib.hid (HX.out.on hb8)
           replace Hr := Lib.hid (Hr.out.on hb8)
           replace HB := Lib.hid (after HB.out hb8)
           clear hb8
           clear Hr)
        | (go_at_call 7; clear R9; refine (union_any _ 2 2 _ _ (LL.lit [⟨A0, n0, c0, X⟩, ⟨none, 0, 0, []⟩] #[.slice A0 n0 c0, .slice none 0 0] rfl (by simp) (by intro e he; simp only [List.mem_cons, List.not_mem_nil, or_false] at he; rcases he with rfl | rfl <;> first | exact HX.out | exact (SI.nil _ _))) (by decide) HN2.out).mono ?_
           rintro e w9 ⟨A9, n9, c9, rfl, hs9, hb9⟩
           have hs9' := hs9.eq HF.out.u2
           replace HX := Lib.hid ((HX.out.onA _).on hb9)
           replace HB := Lib.hid (after (after HB.out (below_alloc _ _)) hb9)
           have Hr := Lib.hid hs9'
           clear hs9 hs9' hb9)
        | (go_at_call 8; clear R10; refine (same_i _ _ _ _ _ _ _ _ _ _ Hr.out.2.2.2 HX.out.2.2.2 Hr.out.n9 HX.out.n9).mono ?_
           rintro e w10 ⟨rfl, hb10⟩
           rw [eqB_true rfl]
           replace HX := Lib.hid (HX.out.on hb10)
           replace Hr := Lib.hid (Hr.out.on hb10)
           replace HB := Lib.hid (after HB.out hb10)
           clear hb10
           clear Hr)
        | (go_at_call 10; clear R11; refine (inter_any _ 1 2 _ _ _ (LL.lit [⟨A0, n0, c0, X⟩, ⟨none, 0, 0, []⟩] #[.slice A0 n0 c0, .slice none 0 0] rfl (by simp) (by intro e he; simp only [List.mem_cons, List.not_mem_nil, or_false] at he; rcases he with rfl | rfl <;> first | exact HX.out | exact (SI.nil _ _))) (by decide) (HX.out.le HN0.out) (by intro e he; simp only [List.mem_cons, List.not_mem_nil, or_false] at he; subst he; exact (by decide))).mono ?_
           rintro e w11 ⟨A11, n11, c11, rfl, hs11, hb11⟩
           have hs11' := hs11.eq HF.out.i0
           obtain rfl : n11 = 0 := hs11'.len.symm
           replace HX := Lib.hid ((HX.out.onA _).on hb11)
           replace HB := Lib.hid (after (after HB.out (below_alloc _ _)) hb11)
           clear hs11 hs11' hb11)
        | (go_at_call 10; clear R12; refine (inter_nil _).mono ?_
           rintro e w12 ⟨A12, n12, c12, rfl, hs12, hb12⟩
           have hs12' := hs12.eq rfl
           obtain rfl : n12 = 0 := hs12'.len.symm
           replace HX := Lib.hid (HX.out.on hb12)
           replace HB := Lib.hid (after HB.out hb12)
           clear hs12 hs12' hb12)
        | (go_at_call 7; clear R13; refine (union_any none 0 0 [] _ (LL.none_ _ _) (by decide) (by simp [uni_nil])).mono ?_
           rintro e w13 ⟨A13, n13, c13, rfl, hs13, hb13⟩
           have hs13' := hs13.eq uni_nil
           obtain rfl : n13 = 0 := hs13'.len.symm
           replace HX := Lib.hid (HX.out.on hb13)
           replace HB := Lib.hid (after HB.out hb13)
           clear hs13 hs13' hb13)
        | (go_at_call 11; clear R14; refine (minus_any _ _ _ _ _ _ _ _ _ HX.out HX.out (HX.out.le HN0.out) (HX.out.le HN0.out)).mono ?_
           rintro e w14 ⟨A14, n14, c14, rfl, hs14, hb14⟩
           have hs14' := hs14.eq HF.out.m1
           obtain rfl : n14 = 0 := hs14'.len.symm
           replace HX := Lib.hid (HX.out.on hb14)
           replace HB := Lib.hid (after HB.out hb14)
           clear hs14 hs14' hb14)
        | (go_at_call 11; clear R15; refine (minus_any _ _ _ _ _ _ _ _ _ HX.out (SI.nil _ _) (HX.out.le HN0.out) (by decide)).mono ?_
           rintro e w15 ⟨A15, n15, c15, rfl, hs15, hb15⟩
           have hs15' := hs15.eq HF.out.m2
           replace HX := Lib.hid (HX.out.on hb15)
           replace HB := Lib.hid (after HB.out hb15)
           have Hr := Lib.hid hs15'
           clear hs15 hs15' hb15)
        | (go_at_call 8; clear R16; refine (same_i _ _ _ _ _ _ _ _ _ _ Hr.out.2.2.2 HX.out.2.2.2 Hr.out.n9 HX.out.n9).mono ?_
           rintro e w16 ⟨rfl, hb16⟩
           rw [eqB_true rfl]
           replace HX := Lib.hid (HX.out.on hb16)
           replace Hr := Lib.hid (Hr.out.on hb16)
           replace HB := Lib.hid (after HB.out hb16)
           clear hb16
           clear Hr)
        | (go_at_call 11; clear R17; refine (minus_any _ _ _ _ _ _ _ _ _ (SI.nil _ _) HX.out (by decide) (HX.out.le HN0.out)).mono ?_
           rintro e w17 ⟨A17, n17, c17, rfl, hs17, hb17⟩
           have hs17' := hs17.eq HF.out.m3
           obtain rfl : n17 = 0 := hs17'.len.symm
           replace HX := Lib.hid (HX.out.on hb17)
           replace HB := Lib.hid (after HB.out hb17)
           clear hs17 hs17' hb17)
        | (go_at_call 12; clear R18; refine (runs_any _).mono ?_
           rintro e w18 ⟨rfl, hb18⟩
           replace HX := Lib.hid (HX.out.on hb18)
           replace HB := Lib.hid (after HB.out hb18)
           clear hb18)
        | fail)

    go_ret
    exact ⟨rfl, HB.out⟩
  · obtain ⟨ad, rfl, _⟩ := h.2.2.2.2 (by omega)
    have hc60 : ¬ (c : Int) < 60 := by have := h.1; omega
    have hc61 : (60 : Int) ≤ c := by omega
    have hc62 : 60 ≤ c := by omega
    have h' := h.take (k := 60) (by omega)
    obtain ⟨l', hl'⟩ : ∃ l', l' = l.take 60 := ⟨_, rfl⟩
    rw [← hl'] at h'
    clear hl' h
    have HNl : Hid (60 ≤ 2000) := Lib.hid (by omega)
    have hF := selfF (l := l') (by rw [h'.len]; exact Nat.le_refl _)
    obtain ⟨X, hX⟩ : ∃ X, X = asc l' := ⟨_, rfl⟩
    rw [← hX] at hF
    clear hX
    have HF := Lib.hid hF
    have HN0 : Hid (X.length ≤ 2000) := Lib.hid (by have := hF.len; omega)
    have HN1 : Hid ((uni [l']).length ≤ 100000) := Lib.hid (by rw [hF.u1]; have := hF.len; omega)
    have HN3 : Hid ((uni [X, X, X]).length ≤ 100000) := Lib.hid (by rw [hF.u3]; have := hF.len; omega)
    have HN2 : Hid ((uni [X, []]).length ≤ 100000) := Lib.hid (by rw [hF.u2]; have := hF.len; omega)
    have Hl := Lib.hid h'
    clear hF h'
    have hgt : (n : Int) > 60 := by omega
    go_enter Try.func3, Try.ntmps3
    have R0 : Hid True := Lib.hid trivial
    have R1 : Hid True := Lib.hid trivial
    have R2 : Hid True := Lib.hid trivial
    have R3 : Hid True := Lib.hid trivial
    have R4 : Hid True := Lib.hid trivial
    have R5 : Hid True := Lib.hid trivial
    have R6 : Hid True := Lib.hid trivial
    have R7 : Hid True := Lib.hid trivial
    have R8 : Hid True := Lib.hid trivial
    have R9 : Hid True := Lib.hid trivial
    have R10 : Hid True := Lib.hid trivial
    have R11 : Hid True := Lib.hid trivial
    have R12 : Hid True := Lib.hid trivial
    have R13 : Hid True := Lib.hid trivial
    have R14 : Hid True := Lib.hid trivial
    have R15 : Hid True := Lib.hid trivial
    have R16 : Hid True := Lib.hid trivial
    have R17 : Hid True := Lib.hid trivial
    have R18 : Hid True := Lib.hid trivial
    go_wp2_with (first
        | (go_at_call 7; clear R0; refine (union_any _ 1 1 _ _ (LL.lit [⟨some ad, 60, c, l'⟩] #[.slice (some ad) 60 c] rfl (by simp) (by intro e he; simp only [List.mem_cons, List.not_mem_nil, or_false] at he; rcases he with rfl <;> first | exact Hl.out)) (by decide) HN1.out).mono ?_
           rintro e w0 ⟨A0, n0, c0, rfl, hs0, hb0⟩
           have hs0' := hs0.eq HF.out.u1
           replace Hl := Lib.hid ((Hl.out.onA _).on hb0)
           replace HB := Lib.hid (after (after HB.out (below_alloc _ _)) hb0)
           have HX := Lib.hid hs0'
           clear hs0 hs0' hb0)
        | (go_at_call 9; clear R1; refine (rising_any _ _ _ _ _ Hl.out HNl.out).mono ?_
           rintro e w1 ⟨A1, n1, c1, rfl, hs1, hb1⟩
           have hs1' := hs1.eq HF.out.r
           replace Hl := Lib.hid (Hl.out.on hb1)
           replace HX := Lib.hid (HX.out.on hb1)
           replace HB := Lib.hid (after HB.out hb1)
           have Hr := Lib.hid hs1'
           clear hs1 hs1' hb1)
        | (go_at_call 8; clear R2; refine (same_i _ _ _ _ _ _ _ _ _ _ HX.out.2.2.2 Hr.out.2.2.2 HX.out.n9 Hr.out.n9).mono ?_
           rintro e w2 ⟨rfl, hb2⟩
           rw [eqB_true rfl]
           replace Hl := Lib.hid (Hl.out.on hb2)
           replace HX := Lib.hid (HX.out.on hb2)
           replace Hr := Lib.hid (Hr.out.on hb2)
           replace HB := Lib.hid (after HB.out hb2)
           clear hb2
           clear Hr
           clear Hl)
        | (go_at_call 7; clear R3; refine (union_any _ 3 3 _ _ (LL.lit [⟨A0, n0, c0, X⟩, ⟨A0, n0, c0, X⟩, ⟨A0, n0, c0, X⟩] #[.slice A0 n0 c0, .slice A0 n0 c0, .slice A0 n0 c0] rfl (by simp) (by intro e he; simp only [List.mem_cons, List.not_mem_nil, or_false] at he; rcases he with rfl | rfl | rfl <;> first | exact HX.out)) (by decide) HN3.out).mono ?_
           rintro e w3 ⟨A3, n3, c3, rfl, hs3, hb3⟩
           have hs3' := hs3.eq HF.out.u3
           replace HX := Lib.hid ((HX.out.onA _).on hb3)
           replace HB := Lib.hid (after (after HB.out (below_alloc _ _)) hb3)
           have Hr := Lib.hid hs3'
           clear hs3 hs3' hb3)
        | (go_at_call 8; clear R4; refine (same_i _ _ _ _ _ _ _ _ _ _ Hr.out.2.2.2 HX.out.2.2.2 Hr.out.n9 HX.out.n9).mono ?_
           rintro e w4 ⟨rfl, hb4⟩
           rw [eqB_true rfl]
           replace HX := Lib.hid (HX.out.on hb4)
           replace Hr := Lib.hid (Hr.out.on hb4)
           replace HB := Lib.hid (after HB.out hb4)
           clear hb4
           clear Hr)
        | (go_at_call 10; clear R5; refine (inter_any _ 1 2 _ _ _ (LL.lit [⟨A0, n0, c0, X⟩, ⟨A0, n0, c0, X⟩] #[.slice A0 n0 c0, .slice A0 n0 c0] rfl (by simp) (by intro e he; simp only [List.mem_cons, List.not_mem_nil, or_false] at he; rcases he with rfl | rfl <;> first | exact HX.out)) (by decide) (HX.out.le HN0.out) (by intro e he; simp only [List.mem_cons, List.not_mem_nil, or_false] at he; subst he; exact (HX.out.le HN0.out))).mono ?_
           rintro e w5 ⟨A5, n5, c5, rfl, hs5, hb5⟩
           have hs5' := hs5.eq HF.out.i2
           replace HX := Lib.hid ((HX.out.onA _).on hb5)
           replace HB := Lib.hid (after (after HB.out (below_alloc _ _)) hb5)
           have Hr := Lib.hid hs5'
           clear hs5 hs5' hb5)
        | (go_at_call 8; clear R6; refine (same_i _ _ _ _ _ _ _ _ _ _ Hr.out.2.2.2 HX.out.2.2.2 Hr.out.n9 HX.out.n9).mono ?_
           rintro e w6 ⟨rfl, hb6⟩
           rw [eqB_true rfl]
           replace HX := Lib.hid (HX.out.on hb6)
           replace Hr := Lib.hid (Hr.out.on hb6)
           replace HB := Lib.hid (after HB.out hb6)
           clear hb6
           clear Hr)
        | (go_at_call 10; clear R7; refine (inter_any _ 0 1 _ _ _ (LL.lit [⟨A0, n0, c0, X⟩] #[.slice A0 n0 c0] rfl (by simp) (by intro e he; simp only [List.mem_cons, List.not_mem_nil, or_false] at he; rcases he with rfl <;> first | exact HX.out)) (by decide) (HX.out.le HN0.out) (by intro e he; cases he)).mono ?_
           rintro e w7 ⟨A7, n7, c7, rfl, hs7, hb7⟩
           have hs7' := hs7.eq HF.out.i1
           replace HX := Lib.hid ((HX.out.onA _).on hb7)
           replace HB := Lib.hid (after (after HB.out (below_alloc _ _)) hb7)
           have Hr := Lib.hid hs7'
           clear hs7 hs7' hb7)
        | (go_at_call 8; clear R8; refine (same_i _ _ _ _ _ _ _ _ _ _ Hr.out.2.2.2 HX.out.2.2.2 Hr.out.n9 HX.out.n9).mono ?_
           rintro e w8 ⟨rfl, hb8⟩
           rw [eqB_true rfl]
           replace HX := Lib.hid (HX.out.on hb8)
           replace Hr := Lib.hid (Hr.out.on hb8)
           replace HB := Lib.hid (after HB.out hb8)
           clear hb8
           clear Hr)
        | (go_at_call 7; clear R9; refine (union_any _ 2 2 _ _ (LL.lit [⟨A0, n0, c0, X⟩, ⟨none, 0, 0, []⟩] #[.slice A0 n0 c0, .slice none 0 0] rfl (by simp) (by intro e he; simp only [List.mem_cons, List.not_mem_nil, or_false] at he; rcases he with rfl | rfl <;> first | exact HX.out | exact (SI.nil _ _))) (by decide) HN2.out).mono ?_
           rintro e w9 ⟨A9, n9, c9, rfl, hs9, hb9⟩
           have hs9' := hs9.eq HF.out.u2
           replace HX := Lib.hid ((HX.out.onA _).on hb9)
           replace HB := Lib.hid (after (after HB.out (below_alloc _ _)) hb9)
           have Hr := Lib.hid hs9'
           clear hs9 hs9' hb9)
        | (go_at_call 8; clear R10; refine (same_i _ _ _ _ _ _ _ _ _ _ Hr.out.2.2.2 HX.out.2.2.2 Hr.out.n9 HX.out.n9).mono ?_
           rintro e w10 ⟨rfl, hb10⟩
           rw [eqB_true rfl]
           replace HX := Lib.hid (HX.out.on hb10)
           replace Hr := Lib.hid (Hr.out.on hb10)
           replace HB := Lib.hid (after HB.out hb10)
           clear hb10
           clear Hr)
        | (go_at_call 10; clear R11; refine (inter_any _ 1 2 _ _ _ (LL.lit [⟨A0, n0, c0, X⟩, ⟨none, 0, 0, []⟩] #[.slice A0 n0 c0, .slice none 0 0] rfl (by simp) (by intro e he; simp only [List.mem_cons, List.not_mem_nil, or_false] at he; rcases he with rfl | rfl <;> first | exact HX.out | exact (SI.nil _ _))) (by decide) (HX.out.le HN0.out) (by intro e he; simp only [List.mem_cons, List.not_mem_nil, or_false] at he; subst he; exact (by decide))).mono ?_
           rintro e w11 ⟨A11, n11, c11, rfl, hs11, hb11⟩
           have hs11' := hs11.eq HF.out.i0
           obtain rfl : n11 = 0 := hs11'.len.symm
           replace HX := Lib.hid ((HX.out.onA _).on hb11)
           replace HB := Lib.hid (after (after HB.out (below_alloc _ _)) hb11)
           clear hs11 hs11' hb11)
        | (go_at_call 10; clear R12; refine (inter_nil _).mono ?_
           rintro e w12 ⟨A12, n12, c12, rfl, hs12, hb12⟩
           have hs12' := hs12.eq rfl
           obtain rfl : n12 = 0 := hs12'.len.symm
           replace HX := Lib.hid (HX.out.on hb12)
           replace HB := Lib.hid (after HB.out hb12)
           clear hs12 hs12' hb12)
        | (go_at_call 7; clear R13; refine (union_any none 0 0 [] _ (LL.none_ _ _) (by decide) (by simp [uni_nil])).mono ?_
           rintro e w13 ⟨A13, n13, c13, rfl, hs13, hb13⟩
           have hs13' := hs13.eq uni_nil
           obtain rfl : n13 = 0 := hs13'.len.symm
           replace HX := Lib.hid (HX.out.on hb13)
           replace HB := Lib.hid (after HB.out hb13)
           clear hs13 hs13' hb13)
        | (go_at_call 11; clear R14; refine (minus_any _ _ _ _ _ _ _ _ _ HX.out HX.out (HX.out.le HN0.out) (HX.out.le HN0.out)).mono ?_
           rintro e w14 ⟨A14, n14, c14, rfl, hs14, hb14⟩
           have hs14' := hs14.eq HF.out.m1
           obtain rfl : n14 = 0 := hs14'.len.symm
           replace HX := Lib.hid (HX.out.on hb14)
           replace HB := Lib.hid (after HB.out hb14)
           clear hs14 hs14' hb14)
        | (go_at_call 11; clear R15; refine (minus_any _ _ _ _ _ _ _ _ _ HX.out (SI.nil _ _) (HX.out.le HN0.out) (by decide)).mono ?_
           rintro e w15 ⟨A15, n15, c15, rfl, hs15, hb15⟩
           have hs15' := hs15.eq HF.out.m2
           replace HX := Lib.hid (HX.out.on hb15)
           replace HB := Lib.hid (after HB.out hb15)
           have Hr := Lib.hid hs15'
           clear hs15 hs15' hb15)
        | (go_at_call 8; clear R16; refine (same_i _ _ _ _ _ _ _ _ _ _ Hr.out.2.2.2 HX.out.2.2.2 Hr.out.n9 HX.out.n9).mono ?_
           rintro e w16 ⟨rfl, hb16⟩
           rw [eqB_true rfl]
           replace HX := Lib.hid (HX.out.on hb16)
           replace Hr := Lib.hid (Hr.out.on hb16)
           replace HB := Lib.hid (after HB.out hb16)
           clear hb16
           clear Hr)
        | (go_at_call 11; clear R17; refine (minus_any _ _ _ _ _ _ _ _ _ (SI.nil _ _) HX.out (by decide) (HX.out.le HN0.out)).mono ?_
           rintro e w17 ⟨A17, n17, c17, rfl, hs17, hb17⟩
           have hs17' := hs17.eq HF.out.m3
           obtain rfl : n17 = 0 := hs17'.len.symm
           replace HX := Lib.hid (HX.out.on hb17)
           replace HB := Lib.hid (after HB.out hb17)
           clear hs17 hs17' hb17)
        | (go_at_call 12; clear R18; refine (runs_any _).mono ?_
           rintro e w18 ⟨rfl, hb18⟩
           replace HX := Lib.hid (HX.out.on hb18)
           replace HB := Lib.hid (after HB.out hb18)
           clear hb18)
        | fail)

    go_ret
    exact ⟨rfl, HB.out⟩
end Go.Proofs.Ythgjpdbajmfclaa
