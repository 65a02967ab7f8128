/-
  MergeLaws: of rising lists: unions and meets in any order and in parts; condition: what can be read.
-/
import Derived.Test.YthgjpdbajmfclaaMge
namespace Go.Proofs.Ythgjpdbajmfclaa
open Go.RowKit Go.WideShapes Go.ChangeShapes
set_option linter.all false
structure LawF (x y z a b c u i ba j iba m mu bc abc ac : List Int) : Prop where
  ux : uni [x] = a
  uy : uni [y] = b
  uz : uni [z] = c
  u3 : uni [a, b, c] = u
  i2 : interL [a, b] = i
  e_ba : uni [b, a] = ba
  v : uni [c, ba] = u
  i3 : interL [a, b, c] = j
  e_iba : interL [b, a] = iba
  i4 : interL [c, iba] = j
  e_m : flt b false (asc a) = m
  im : uni [i, m] = a
  n0 : interL [m, b] = []
  e_mu : flt c false (asc u) = mu
  lu : u.length = mu.length + c.length
  e_bc : uni [b, c] = bc
  e_abc : interL [a, bc] = abc
  e_ac : interL [a, c] = ac
  r : uni [i, ac] = abc
  la : a.length ≤ 2000
  lb : b.length ≤ 2000
  lc : c.length ≤ 2000
  lu9 : u.length ≤ 2000
  li : i.length ≤ 2000
  lba : ba.length ≤ 2000
  liba : iba.length ≤ 2000
  lm : m.length ≤ 2000
  lmu : mu.length ≤ 2000
  lbc : bc.length ≤ 2000
  lac : ac.length ≤ 2000
  labc : abc.length ≤ 2000
theorem inter2_len (a b : List Int) : (interL [a, b]).length ≤ a.length := by
  rw [inter2_eq]; exact flt_len _ _ _
theorem part_len (p : Int → Bool) : ∀ l : List Int, l.length = (l.filter fun y => p y == false).length + (l.filter fun y => p y == true).length
  | [] => rfl
  | x :: r => by
    have := part_len p r
    rw [List.filter_cons, List.filter_cons]
    cases hp : p x
    · rw [if_pos (by decide), if_neg (by decide)]; simp only [List.length_cons]; omega
    · rw [if_neg (by decide), if_pos (by decide)]; simp only [List.length_cons]; omega
theorem lawF {x y z : List Int} (hx : x.length ≤ 40) (hy : y.length ≤ 40) (hz : z.length ≤ 40) : ∃ a b c u i ba j iba m mu bc abc ac, LawF x y z a b c u i ba j iba m mu bc abc ac := by
  obtain ⟨a, ha⟩ : ∃ a, a = asc x := ⟨_, rfl⟩
  obtain ⟨b, hb⟩ : ∃ b, b = asc y := ⟨_, rfl⟩
  obtain ⟨c, hc⟩ : ∃ c, c = asc z := ⟨_, rfl⟩
  have sa : SortedI a := ha ▸ asc_sorted x
  have sb : SortedI b := hb ▸ asc_sorted y
  have sc : SortedI c := hc ▸ asc_sorted z
  have la : a.length ≤ 40 := by have := asc_len' x; rw [ha]; omega
  have lb : b.length ≤ 40 := by have := asc_len' y; rw [hb]; omega
  have lc : c.length ≤ 40 := by have := asc_len' z; rw [hc]; omega
  have ea := asc_of_sorted _ sa
  have eb := asc_of_sorted _ sb
  have ec := asc_of_sorted _ sc
  have eu : ∀ L, asc (uni L) = uni L := fun L => asc_of_sorted _ (uni_sorted L)
  have ei : ∀ p q, asc (interL [p, q]) = interL [p, q] := fun p q => asc_of_sorted _ (inter2_sorted p q)
  have em : ∀ p q, asc (flt q false (asc p)) = flt q false (asc p) := fun p q => asc_of_sorted _ (minus_sorted p q)
  have lu : (uni [a, b, c]).length ≤ 120 := by have := uni_len [a, b, c]; simp at this; omega
  have lba : (uni [b, a]).length ≤ 80 := by have := uni_len [b, a]; simp at this; omega
  have lbc : (uni [b, c]).length ≤ 80 := by have := uni_len [b, c]; simp at this; omega
  have li := inter2_len a b
  have liba := inter2_len b a
  have lac := inter2_len a c
  have labc := inter2_len a (uni [b, c])
  have lm := flt_len b false a
  have lmu := flt_len c false (uni [a, b, c])
  refine ⟨a, b, c, _, _, _, _, _, _, _, _, _, _, ?_, ?_, ?_, rfl, rfl, rfl, ?_, rfl, rfl, ?_, rfl, ?_, ?_, rfl, ?_, rfl, rfl, rfl, ?_, by omega, by omega, by omega, by omega, by omega, by omega, by omega, by omega, by omega, by omega, by omega, by omega⟩
  · rw [uni1, ha]
  · rw [uni1, hb]
  · rw [uni1, hc]
  · refine sorted_eq (uni_sorted _) (uni_sorted _) fun t => ?_
    rw [uni2_mem, uni3_mem, eu, uni2_mem]
    constructor <;> intro h <;> rcases h with h | h | h <;> simp [h]
  · refine sorted_eq (inter2_sorted _ _) (inter3_sorted _ _ _) fun t => ?_
    rw [inter2_mem, inter3_mem, ei, inter2_mem]
    constructor <;> rintro ⟨h1, h2, h3⟩ <;> simp [h1, h2, h3]
  · refine sorted_eq (uni_sorted _) sa fun t => ?_
    rw [uni2_mem, ei, em, inter2_mem, minus_mem, ea]
    by_cases h : t ∈ asc b <;> simp [h]
  · refine sorted_eq (inter2_sorted _ _) List.Pairwise.nil fun t => ?_
    rw [inter2_mem, em, minus_mem]
    simp
  · have e : (uni [a, b, c]).filter (fun t => decide (t ∈ asc c) == true) = c := by
      refine sorted_eq ((uni_sorted _).filter _) sc fun t => ?_
      rw [List.mem_filter, beq_iff_eq, decide_eq_true_eq, uni3_mem, ec]
      constructor
      · exact fun h => h.2
      · exact fun h => ⟨.inr (.inr h), h⟩
    have h := part_len (fun t => decide (t ∈ asc c)) (uni [a, b, c])
    rw [e] at h
    rw [eu]
    exact h
  · refine sorted_eq (uni_sorted _) (inter2_sorted _ _) fun t => ?_
    rw [uni2_mem, ei, ei, inter2_mem, inter2_mem, inter2_mem, eu, uni2_mem]
    constructor
    · rintro (⟨h1, h2⟩ | ⟨h1, h2⟩) <;> simp [h1, h2]
    · rintro ⟨h1, h2 | h2⟩ <;> simp [h1, h2]
set_option maxRecDepth 100000 in
set_option maxHeartbeats 12800000 in
theorem laws_any (Ax Ay Az : Option Addr) (nx ny nz cx cy cz : Nat) (x y z : List Int) (w : World) (hx : SI w w.heap.size Ax nx cx x) (hy : SI w w.heap.size Ay ny cy y) (hz : SI w w.heap.size Az nz cz z) :
    Calls Try.prog 4 #[.slice Ax nx cx, .slice Ay ny cy, .slice Az nz cz] w fun e w' => e = .returned (.bool true) ∧ Below w.heap.size w w' := by
  have runs : ∀ hbad : nx > 40 ∨ ny > 40 ∨ nz > 40, Calls Try.prog 4 #[.slice Ax nx cx, .slice Ay ny cy, .slice Az nz cz] w fun e w' => e = .returned (.bool true) ∧ Below w.heap.size w w' := by
    clear hx hy hz
    intro hbad
    by_cases h1 : nx ≤ 40
    · have h1' : ¬ (nx : Int) > 40 := by omega
      by_cases h2 : ny ≤ 40
      · have h2' : ¬ (ny : Int) > 40 := by omega
        have h3' : (nz : Int) > 40 := by omega
        go_enter Try.func4, Try.ntmps4
        go_wp2_with (first
          | (go_at_call 12; refine (runs_any _).mono ?_
             rintro e w1 ⟨rfl, hb1⟩
             have HB := Lib.hid hb1
             clear hb1)
          | fail)
        go_ret
        exact ⟨rfl, HB.out⟩
      · have h2' : (ny : Int) > 40 := by omega
        go_enter Try.func4, Try.ntmps4
        go_wp2_with (first
          | (go_at_call 12; refine (runs_any _).mono ?_
             rintro e w1 ⟨rfl, hb1⟩
             have HB := Lib.hid hb1
             clear hb1)
          | fail)
        go_ret
        exact ⟨rfl, HB.out⟩
    · have h1' : (nx : Int) > 40 := by omega
      go_enter Try.func4, Try.ntmps4
      go_wp2_with (first
        | (go_at_call 12; refine (runs_any _).mono ?_
           rintro e w1 ⟨rfl, hb1⟩
           have HB := Lib.hid hb1
           clear hb1)
        | fail)
      go_ret
      exact ⟨rfl, HB.out⟩
  by_cases hall : nx ≤ 40 ∧ ny ≤ 40 ∧ nz ≤ 40
  · clear runs
    obtain ⟨h1, h2, h3⟩ := hall
    have h1' : ¬ (nx : Int) > 40 := by omega
    have h2' : ¬ (ny : Int) > 40 := by omega
    have h3' : ¬ (nz : Int) > 40 := by omega
    have HB : Hid (Below w.heap.size w w) := Lib.hid (Below.refl _ _)
    obtain ⟨a, b, c, u, i, ba, j, iba, m, mu, bc, abc, ac, hF⟩ := lawF (x := x) (y := y) (z := z) (by rw [hx.len]; exact h1) (by rw [hy.len]; exact h2) (by rw [hz.len]; exact h3)
    have HU1 : Hid ((uni [x]).length ≤ 100000) := Lib.hid (by rw [hF.ux]; have := hF.la; omega)
    have HU2 : Hid ((uni [y]).length ≤ 100000) := Lib.hid (by rw [hF.uy]; have := hF.lb; omega)
    have HU3 : Hid ((uni [z]).length ≤ 100000) := Lib.hid (by rw [hF.uz]; have := hF.lc; omega)
    have HU4 : Hid ((uni [a, b, c]).length ≤ 100000) := Lib.hid (by rw [hF.u3]; have := hF.lu9; omega)
    have HU5 : Hid ((uni [b, a]).length ≤ 100000) := Lib.hid (by rw [hF.e_ba]; have := hF.lba; omega)
    have HU6 : Hid ((uni [c, ba]).length ≤ 100000) := Lib.hid (by rw [hF.v]; have := hF.lu9; omega)
    have HU7 : Hid ((uni [i, m]).length ≤ 100000) := Lib.hid (by rw [hF.im]; have := hF.la; omega)
    have HU8 : Hid ((uni [b, c]).length ≤ 100000) := Lib.hid (by rw [hF.e_bc]; have := hF.lbc; omega)
    have HU9 : Hid ((uni [i, ac]).length ≤ 100000) := Lib.hid (by rw [hF.r]; have := hF.labc; omega)
    have HF := Lib.hid hF
    have Hx := Lib.hid hx
    have Hy := Lib.hid hy
    have Hz := Lib.hid hz
    clear hF hx hy hz
    go_enter Try.func4, Try.ntmps4
    have R0 : Hid True := Lib.hid trivial
    have R1 : Hid True := Lib.hid trivial
    have R2 : Hid True := Lib.hid trivial
    have R3 : Hid True := Lib.hid trivial
    have R4 : Hid True := Lib.hid trivial
    have R5 : Hid True := Lib.hid trivial
    have R6 : Hid True := Lib.hid trivial
    have R7 : Hid True := Lib.hid trivial
    have R8 : Hid True := Lib.hid trivial
    have R9 : Hid True := Lib.hid trivial
    have R10 : Hid True := Lib.hid trivial
    have R11 : Hid True := Lib.hid trivial
    have R12 : Hid True := Lib.hid trivial
    have R13 : Hid True := Lib.hid trivial
    have R14 : Hid True := Lib.hid trivial
    have R15 : Hid True := Lib.hid trivial
    have R16 : Hid True := Lib.hid trivial
    have R17 : Hid True := Lib.hid trivial
    have R18 : Hid True := Lib.hid trivial
    have R19 : Hid True := Lib.hid trivial
    have R20 : Hid True := Lib.hid trivial
    have R21 : Hid True := Lib.hid trivial
    have R22 : Hid True := Lib.hid trivial
    have R23 : Hid True := Lib.hid trivial
    go_wp2_with (first
        | (go_at_call 7; clear R0; refine (union_any _ 1 1 _ _ (LL.lit [⟨Ax, nx, cx, x⟩] #[.slice Ax nx cx] rfl (by simp) (by intro e he; simp only [List.mem_cons, List.not_mem_nil, or_false] at he; rcases he with rfl <;> first | exact Hx.out)) (by decide) HU1.out).mono ?_
           rintro e w0 ⟨A0, n0, c0, rfl, hs0, hb0⟩
           have hs0' := hs0.eq HF.out.ux
           replace Hx := Lib.hid ((Hx.out.onA _).on hb0)
           replace Hy := Lib.hid ((Hy.out.onA _).on hb0)
           replace Hz := Lib.hid ((Hz.out.onA _).on hb0)
           replace HB := Lib.hid (after (after HB.out (below_alloc _ _)) hb0)
           have Ha := Lib.hid hs0'
           clear hs0 hs0' hb0
           clear Hx)
        | (go_at_call 7; clear R1; refine (union_any _ 1 1 _ _ (LL.lit [⟨Ay, ny, cy, y⟩] #[.slice Ay ny cy] rfl (by simp) (by intro e he; simp only [List.mem_cons, List.not_mem_nil, or_false] at he; rcases he with rfl <;> first | exact Hy.out)) (by decide) HU2.out).mono ?_
           rintro e w1 ⟨A1, n1, c1, rfl, hs1, hb1⟩
           have hs1' := hs1.eq HF.out.uy
           replace Hy := Lib.hid ((Hy.out.onA _).on hb1)
           replace Hz := Lib.hid ((Hz.out.onA _).on hb1)
           replace Ha := Lib.hid ((Ha.out.onA _).on hb1)
           replace HB := Lib.hid (after (after HB.out (below_alloc _ _)) hb1)
           have Hb := Lib.hid hs1'
           clear hs1 hs1' hb1
           clear Hy)
        | (go_at_call 7; clear R2; refine (union_any _ 1 1 _ _ (LL.lit [⟨Az, nz, cz, z⟩] #[.slice Az nz cz] rfl (by simp) (by intro e he; simp only [List.mem_cons, List.not_mem_nil, or_false] at he; rcases he with rfl <;> first | exact Hz.out)) (by decide) HU3.out).mono ?_
           rintro e w2 ⟨A2, n2, c2, rfl, hs2, hb2⟩
           have hs2' := hs2.eq HF.out.uz
           replace Hz := Lib.hid ((Hz.out.onA _).on hb2)
           replace Ha := Lib.hid ((Ha.out.onA _).on hb2)
           replace Hb := Lib.hid ((Hb.out.onA _).on hb2)
           replace HB := Lib.hid (after (after HB.out (below_alloc _ _)) hb2)
           have Hc := Lib.hid hs2'
           clear hs2 hs2' hb2
           clear Hz)
        | (go_at_call 7; clear R3; refine (union_any _ 3 3 _ _ (LL.lit [⟨A0, n0, c0, a⟩, ⟨A1, n1, c1, b⟩, ⟨A2, n2, c2, c⟩] #[.slice A0 n0 c0, .slice A1 n1 c1, .slice A2 n2 c2] rfl (by simp) (by intro e he; simp only [List.mem_cons, List.not_mem_nil, or_false] at he; rcases he with rfl | rfl | rfl <;> first | exact Ha.out | exact Hb.out | exact Hc.out)) (by decide) HU4.out).mono ?_
           rintro e w3 ⟨A3, n3, c3, rfl, hs3, hb3⟩
           have hs3' := hs3.eq HF.out.u3
           replace Ha := Lib.hid ((Ha.out.onA _).on hb3)
           replace Hb := Lib.hid ((Hb.out.onA _).on hb3)
           replace Hc := Lib.hid ((Hc.out.onA _).on hb3)
           replace HB := Lib.hid (after (after HB.out (below_alloc _ _)) hb3)
           have Hu := Lib.hid hs3'
           clear hs3 hs3' hb3)
        | (go_at_call 10; clear R4; refine (inter_any _ 1 2 _ _ _ (LL.lit [⟨A0, n0, c0, a⟩, ⟨A1, n1, c1, b⟩] #[.slice A0 n0 c0, .slice A1 n1 c1] rfl (by simp) (by intro e he; simp only [List.mem_cons, List.not_mem_nil, or_false] at he; rcases he with rfl | rfl <;> first | exact Ha.out | exact Hb.out)) (by decide) (Ha.out.le HF.out.la) (by intro e he; simp only [List.mem_cons, List.not_mem_nil, or_false] at he; rcases he with rfl <;> first | exact (Hb.out.le HF.out.lb))).mono ?_
           rintro e w4 ⟨A4, n4, c4, rfl, hs4, hb4⟩
           have hs4' := hs4.eq HF.out.i2
           replace Ha := Lib.hid ((Ha.out.onA _).on hb4)
           replace Hb := Lib.hid ((Hb.out.onA _).on hb4)
           replace Hc := Lib.hid ((Hc.out.onA _).on hb4)
           replace Hu := Lib.hid ((Hu.out.onA _).on hb4)
           replace HB := Lib.hid (after (after HB.out (below_alloc _ _)) hb4)
           have Hi := Lib.hid hs4'
           clear hs4 hs4' hb4)
        | (go_at_call 7; clear R5; refine (union_any _ 2 2 _ _ (LL.lit [⟨A1, n1, c1, b⟩, ⟨A0, n0, c0, a⟩] #[.slice A1 n1 c1, .slice A0 n0 c0] rfl (by simp) (by intro e he; simp only [List.mem_cons, List.not_mem_nil, or_false] at he; rcases he with rfl | rfl <;> first | exact Hb.out | exact Ha.out)) (by decide) HU5.out).mono ?_
           rintro e w5 ⟨A5, n5, c5, rfl, hs5, hb5⟩
           have hs5' := hs5.eq HF.out.e_ba
           replace Ha := Lib.hid ((Ha.out.onA _).on hb5)
           replace Hb := Lib.hid ((Hb.out.onA _).on hb5)
           replace Hc := Lib.hid ((Hc.out.onA _).on hb5)
           replace Hu := Lib.hid ((Hu.out.onA _).on hb5)
           replace Hi := Lib.hid ((Hi.out.onA _).on hb5)
           replace HB := Lib.hid (after (after HB.out (below_alloc _ _)) hb5)
           have Hba := Lib.hid hs5'
           clear hs5 hs5' hb5)
        | (go_at_call 7; clear R6; refine (union_any _ 2 2 _ _ (LL.lit [⟨A2, n2, c2, c⟩, ⟨A5, n5, c5, ba⟩] #[.slice A2 n2 c2, .slice A5 n5 c5] rfl (by simp) (by intro e he; simp only [List.mem_cons, List.not_mem_nil, or_false] at he; rcases he with rfl | rfl <;> first | exact Hc.out | exact Hba.out)) (by decide) HU6.out).mono ?_
           rintro e w6 ⟨A6, n6, c6, rfl, hs6, hb6⟩
           have hs6' := hs6.eq HF.out.v
           replace Ha := Lib.hid ((Ha.out.onA _).on hb6)
           replace Hb := Lib.hid ((Hb.out.onA _).on hb6)
           replace Hc := Lib.hid ((Hc.out.onA _).on hb6)
           replace Hu := Lib.hid ((Hu.out.onA _).on hb6)
           replace Hi := Lib.hid ((Hi.out.onA _).on hb6)
           replace Hba := Lib.hid ((Hba.out.onA _).on hb6)
           replace HB := Lib.hid (after (after HB.out (below_alloc _ _)) hb6)
           have Hv := Lib.hid hs6'
           clear hs6 hs6' hb6
           clear Hba)
        | (go_at_call 8; clear R7; refine (same_i _ _ _ _ _ _ _ _ _ _ Hu.out.2.2.2 Hv.out.2.2.2 Hu.out.n9 Hv.out.n9).mono ?_
           rintro e w7 ⟨rfl, hb7⟩
           rw [eqB_true rfl]
           replace Ha := Lib.hid (Ha.out.on hb7)
           replace Hb := Lib.hid (Hb.out.on hb7)
           replace Hc := Lib.hid (Hc.out.on hb7)
           replace Hu := Lib.hid (Hu.out.on hb7)
           replace Hi := Lib.hid (Hi.out.on hb7)
           replace Hv := Lib.hid (Hv.out.on hb7)
           replace HB := Lib.hid (after HB.out hb7)
           clear hb7
           clear Hv)
        | (go_at_call 10; clear R8; refine (inter_any _ 2 3 _ _ _ (LL.lit [⟨A0, n0, c0, a⟩, ⟨A1, n1, c1, b⟩, ⟨A2, n2, c2, c⟩] #[.slice A0 n0 c0, .slice A1 n1 c1, .slice A2 n2 c2] rfl (by simp) (by intro e he; simp only [List.mem_cons, List.not_mem_nil, or_false] at he; rcases he with rfl | rfl | rfl <;> first | exact Ha.out | exact Hb.out | exact Hc.out)) (by decide) (Ha.out.le HF.out.la) (by intro e he; simp only [List.mem_cons, List.not_mem_nil, or_false] at he; rcases he with rfl | rfl <;> first | exact (Hb.out.le HF.out.lb) | exact (Hc.out.le HF.out.lc))).mono ?_
           rintro e w8 ⟨A8, n8, c8, rfl, hs8, hb8⟩
           have hs8' := hs8.eq HF.out.i3
           replace Ha := Lib.hid ((Ha.out.onA _).on hb8)
           replace Hb := Lib.hid ((Hb.out.onA _).on hb8)
           replace Hc := Lib.hid ((Hc.out.onA _).on hb8)
           replace Hu := Lib.hid ((Hu.out.onA _).on hb8)
           replace Hi := Lib.hid ((Hi.out.onA _).on hb8)
           replace HB := Lib.hid (after (after HB.out (below_alloc _ _)) hb8)
           have Hj := Lib.hid hs8'
           clear hs8 hs8' hb8)
        | (go_at_call 10; clear R9; refine (inter_any _ 1 2 _ _ _ (LL.lit [⟨A1, n1, c1, b⟩, ⟨A0, n0, c0, a⟩] #[.slice A1 n1 c1, .slice A0 n0 c0] rfl (by simp) (by intro e he; simp only [List.mem_cons, List.not_mem_nil, or_false] at he; rcases he with rfl | rfl <;> first | exact Hb.out | exact Ha.out)) (by decide) (Hb.out.le HF.out.lb) (by intro e he; simp only [List.mem_cons, List.not_mem_nil, or_false] at he; rcases he with rfl <;> first | exact (Ha.out.le HF.out.la))).mono ?_
           rintro e w9 ⟨A9, n9, c9, rfl, hs9, hb9⟩
           have hs9' := hs9.eq HF.out.e_iba
           replace Ha := Lib.hid ((Ha.out.onA _).on hb9)
           replace Hb := Lib.hid ((Hb.out.onA _).on hb9)
           replace Hc := Lib.hid ((Hc.out.onA _).on hb9)
           replace Hu := Lib.hid ((Hu.out.onA _).on hb9)
           replace Hi := Lib.hid ((Hi.out.onA _).on hb9)
           replace Hj := Lib.hid ((Hj.out.onA _).on hb9)
           replace HB := Lib.hid (after (after HB.out (below_alloc _ _)) hb9)
           have Hiba := Lib.hid hs9'
           clear hs9 hs9' hb9)
        | (go_at_call 10; clear R10; refine (inter_any _ 1 2 _ _ _ (LL.lit [⟨A2, n2, c2, c⟩, ⟨A9, n9, c9, iba⟩] #[.slice A2 n2 c2, .slice A9 n9 c9] rfl (by simp) (by intro e he; simp only [List.mem_cons, List.not_mem_nil, or_false] at he; rcases he with rfl | rfl <;> first | exact Hc.out | exact Hiba.out)) (by decide) (Hc.out.le HF.out.lc) (by intro e he; simp only [List.mem_cons, List.not_mem_nil, or_false] at he; rcases he with rfl <;> first | exact (Hiba.out.le HF.out.liba))).mono ?_
           rintro e w10 ⟨A10, n10, c10, rfl, hs10, hb10⟩
           have hs10' := hs10.eq HF.out.i4
           replace Ha := Lib.hid ((Ha.out.onA _).on hb10)
           replace Hb := Lib.hid ((Hb.out.onA _).on hb10)
           replace Hc := Lib.hid ((Hc.out.onA _).on hb10)
           replace Hu := Lib.hid ((Hu.out.onA _).on hb10)
           replace Hi := Lib.hid ((Hi.out.onA _).on hb10)
           replace Hj := Lib.hid ((Hj.out.onA _).on hb10)
           replace Hiba := Lib.hid ((Hiba.out.onA _).on hb10)
           replace HB := Lib.hid (after (after HB.out (below_alloc _ _)) hb10)
           have Hk := Lib.hid hs10'
           clear hs10 hs10' hb10
           clear Hiba)
        | (go_at_call 8; clear R11; refine (same_i _ _ _ _ _ _ _ _ _ _ Hj.out.2.2.2 Hk.out.2.2.2 Hj.out.n9 Hk.out.n9).mono ?_
           rintro e w11 ⟨rfl, hb11⟩
           rw [eqB_true rfl]
           replace Ha := Lib.hid (Ha.out.on hb11)
           replace Hb := Lib.hid (Hb.out.on hb11)
           replace Hc := Lib.hid (Hc.out.on hb11)
           replace Hu := Lib.hid (Hu.out.on hb11)
           replace Hi := Lib.hid (Hi.out.on hb11)
           replace Hj := Lib.hid (Hj.out.on hb11)
           replace Hk := Lib.hid (Hk.out.on hb11)
           replace HB := Lib.hid (after HB.out hb11)
           clear hb11
           clear Hj
           clear Hk)
        | (go_at_call 11; clear R12; refine (minus_any _ _ _ _ _ _ _ _ _ Ha.out Hb.out (Ha.out.le HF.out.la) (Hb.out.le HF.out.lb)).mono ?_
           rintro e w12 ⟨A12, n12, c12, rfl, hs12, hb12⟩
           have hs12' := hs12.eq HF.out.e_m
           replace Ha := Lib.hid (Ha.out.on hb12)
           replace Hb := Lib.hid (Hb.out.on hb12)
           replace Hc := Lib.hid (Hc.out.on hb12)
           replace Hu := Lib.hid (Hu.out.on hb12)
           replace Hi := Lib.hid (Hi.out.on hb12)
           replace HB := Lib.hid (after HB.out hb12)
           have Hm := Lib.hid hs12'
           clear hs12 hs12' hb12)
        | (go_at_call 7; clear R13; refine (union_any _ 2 2 _ _ (LL.lit [⟨A4, n4, c4, i⟩, ⟨A12, n12, c12, m⟩] #[.slice A4 n4 c4, .slice A12 n12 c12] rfl (by simp) (by intro e he; simp only [List.mem_cons, List.not_mem_nil, or_false] at he; rcases he with rfl | rfl <;> first | exact Hi.out | exact Hm.out)) (by decide) HU7.out).mono ?_
           rintro e w13 ⟨A13, n13, c13, rfl, hs13, hb13⟩
           have hs13' := hs13.eq HF.out.im
           replace Ha := Lib.hid ((Ha.out.onA _).on hb13)
           replace Hb := Lib.hid ((Hb.out.onA _).on hb13)
           replace Hc := Lib.hid ((Hc.out.onA _).on hb13)
           replace Hu := Lib.hid ((Hu.out.onA _).on hb13)
           replace Hi := Lib.hid ((Hi.out.onA _).on hb13)
           replace Hm := Lib.hid ((Hm.out.onA _).on hb13)
           replace HB := Lib.hid (after (after HB.out (below_alloc _ _)) hb13)
           have Hr := Lib.hid hs13'
           clear hs13 hs13' hb13
           clear Hm)
        | (go_at_call 8; clear R14; refine (same_i _ _ _ _ _ _ _ _ _ _ Hr.out.2.2.2 Ha.out.2.2.2 Hr.out.n9 Ha.out.n9).mono ?_
           rintro e w14 ⟨rfl, hb14⟩
           rw [eqB_true rfl]
           replace Ha := Lib.hid (Ha.out.on hb14)
           replace Hb := Lib.hid (Hb.out.on hb14)
           replace Hc := Lib.hid (Hc.out.on hb14)
           replace Hu := Lib.hid (Hu.out.on hb14)
           replace Hi := Lib.hid (Hi.out.on hb14)
           replace Hr := Lib.hid (Hr.out.on hb14)
           replace HB := Lib.hid (after HB.out hb14)
           clear hb14
           clear Hr)
        | (go_at_call 11; clear R15; refine (minus_any _ _ _ _ _ _ _ _ _ Ha.out Hb.out (Ha.out.le HF.out.la) (Hb.out.le HF.out.lb)).mono ?_
           rintro e w15 ⟨A15, n15, c15, rfl, hs15, hb15⟩
           have hs15' := hs15.eq HF.out.e_m
           replace Ha := Lib.hid (Ha.out.on hb15)
           replace Hb := Lib.hid (Hb.out.on hb15)
           replace Hc := Lib.hid (Hc.out.on hb15)
           replace Hu := Lib.hid (Hu.out.on hb15)
           replace Hi := Lib.hid (Hi.out.on hb15)
           replace HB := Lib.hid (after HB.out hb15)
           have Hm := Lib.hid hs15'
           clear hs15 hs15' hb15)
        | (go_at_call 10; clear R16; refine (inter_any _ 1 2 _ _ _ (LL.lit [⟨A15, n15, c15, m⟩, ⟨A1, n1, c1, b⟩] #[.slice A15 n15 c15, .slice A1 n1 c1] rfl (by simp) (by intro e he; simp only [List.mem_cons, List.not_mem_nil, or_false] at he; rcases he with rfl | rfl <;> first | exact Hm.out | exact Hb.out)) (by decide) (Hm.out.le HF.out.lm) (by intro e he; simp only [List.mem_cons, List.not_mem_nil, or_false] at he; rcases he with rfl <;> first | exact (Hb.out.le HF.out.lb))).mono ?_
           rintro e w16 ⟨A16, n16, c16, rfl, hs16, hb16⟩
           have hs16' := hs16.eq HF.out.n0
           obtain rfl : n16 = 0 := hs16'.len.symm
           replace Ha := Lib.hid ((Ha.out.onA _).on hb16)
           replace Hb := Lib.hid ((Hb.out.onA _).on hb16)
           replace Hc := Lib.hid ((Hc.out.onA _).on hb16)
           replace Hu := Lib.hid ((Hu.out.onA _).on hb16)
           replace Hi := Lib.hid ((Hi.out.onA _).on hb16)
           replace Hm := Lib.hid ((Hm.out.onA _).on hb16)
           replace HB := Lib.hid (after (after HB.out (below_alloc _ _)) hb16)
           clear hs16 hs16' hb16
           clear Hm)
        | (go_at_call 11; clear R17; refine (minus_any _ _ _ _ _ _ _ _ _ Hu.out Hc.out (Hu.out.le HF.out.lu9) (Hc.out.le HF.out.lc)).mono ?_
           rintro e w17 ⟨A17, n17, c17, rfl, hs17, hb17⟩
           have hs17' := hs17.eq HF.out.e_mu
           replace Ha := Lib.hid (Ha.out.on hb17)
           replace Hb := Lib.hid (Hb.out.on hb17)
           replace Hc := Lib.hid (Hc.out.on hb17)
           replace Hu := Lib.hid (Hu.out.on hb17)
           replace Hi := Lib.hid (Hi.out.on hb17)
           replace HB := Lib.hid (after HB.out hb17)
           have Hmu := Lib.hid hs17'
           clear hs17 hs17' hb17
           have hlu : n3 = n17 + n2 := (by have h1 := HF.out.lu; rw [Hu.out.len, Hmu.out.len, Hc.out.len] at h1; exact h1)
           have hmu9 := Hmu.out.le HF.out.lmu
           have hc9 := Hc.out.le HF.out.lc
           subst hlu
           clear Hmu Hu)
        | (go_at_call 7; clear R18; refine (union_any _ 2 2 _ _ (LL.lit [⟨A1, n1, c1, b⟩, ⟨A2, n2, c2, c⟩] #[.slice A1 n1 c1, .slice A2 n2 c2] rfl (by simp) (by intro e he; simp only [List.mem_cons, List.not_mem_nil, or_false] at he; rcases he with rfl | rfl <;> first | exact Hb.out | exact Hc.out)) (by decide) HU8.out).mono ?_
           rintro e w18 ⟨A18, n18, c18, rfl, hs18, hb18⟩
           have hs18' := hs18.eq HF.out.e_bc
           replace Ha := Lib.hid ((Ha.out.onA _).on hb18)
           replace Hb := Lib.hid ((Hb.out.onA _).on hb18)
           replace Hc := Lib.hid ((Hc.out.onA _).on hb18)
           replace Hi := Lib.hid ((Hi.out.onA _).on hb18)
           replace HB := Lib.hid (after (after HB.out (below_alloc _ _)) hb18)
           have Hbc := Lib.hid hs18'
           clear hs18 hs18' hb18)
        | (go_at_call 10; clear R19; refine (inter_any _ 1 2 _ _ _ (LL.lit [⟨A0, n0, c0, a⟩, ⟨A18, n18, c18, bc⟩] #[.slice A0 n0 c0, .slice A18 n18 c18] rfl (by simp) (by intro e he; simp only [List.mem_cons, List.not_mem_nil, or_false] at he; rcases he with rfl | rfl <;> first | exact Ha.out | exact Hbc.out)) (by decide) (Ha.out.le HF.out.la) (by intro e he; simp only [List.mem_cons, List.not_mem_nil, or_false] at he; rcases he with rfl <;> first | exact (Hbc.out.le HF.out.lbc))).mono ?_
           rintro e w19 ⟨A19, n19, c19, rfl, hs19, hb19⟩
           have hs19' := hs19.eq HF.out.e_abc
           replace Ha := Lib.hid ((Ha.out.onA _).on hb19)
           replace Hb := Lib.hid ((Hb.out.onA _).on hb19)
           replace Hc := Lib.hid ((Hc.out.onA _).on hb19)
           replace Hi := Lib.hid ((Hi.out.onA _).on hb19)
           replace Hbc := Lib.hid ((Hbc.out.onA _).on hb19)
           replace HB := Lib.hid (after (after HB.out (below_alloc _ _)) hb19)
           have Habc := Lib.hid hs19'
           clear hs19 hs19' hb19
           clear Hbc)
        | (go_at_call 10; clear R20; refine (inter_any _ 1 2 _ _ _ (LL.lit [⟨A0, n0, c0, a⟩, ⟨A2, n2, c2, c⟩] #[.slice A0 n0 c0, .slice A2 n2 c2] rfl (by simp) (by intro e he; simp only [List.mem_cons, List.not_mem_nil, or_false] at he; rcases he with rfl | rfl <;> first | exact Ha.out | exact Hc.out)) (by decide) (Ha.out.le HF.out.la) (by intro e he; simp only [List.mem_cons, List.not_mem_nil, or_false] at he; rcases he with rfl <;> first | exact (Hc.out.le HF.out.lc))).mono ?_
           rintro e w20 ⟨A20, n20, c20, rfl, hs20, hb20⟩
           have hs20' := hs20.eq HF.out.e_ac
           replace Ha := Lib.hid ((Ha.out.onA _).on hb20)
           replace Hb := Lib.hid ((Hb.out.onA _).on hb20)
           replace Hc := Lib.hid ((Hc.out.onA _).on hb20)
           replace Hi := Lib.hid ((Hi.out.onA _).on hb20)
           replace Habc := Lib.hid ((Habc.out.onA _).on hb20)
           replace HB := Lib.hid (after (after HB.out (below_alloc _ _)) hb20)
           have Hac := Lib.hid hs20'
           clear hs20 hs20' hb20)
        | (go_at_call 7; clear R21; refine (union_any _ 2 2 _ _ (LL.lit [⟨A4, n4, c4, i⟩, ⟨A20, n20, c20, ac⟩] #[.slice A4 n4 c4, .slice A20 n20 c20] rfl (by simp) (by intro e he; simp only [List.mem_cons, List.not_mem_nil, or_false] at he; rcases he with rfl | rfl <;> first | exact Hi.out | exact Hac.out)) (by decide) HU9.out).mono ?_
           rintro e w21 ⟨A21, n21, c21, rfl, hs21, hb21⟩
           have hs21' := hs21.eq HF.out.r
           replace Ha := Lib.hid ((Ha.out.onA _).on hb21)
           replace Hb := Lib.hid ((Hb.out.onA _).on hb21)
           replace Hc := Lib.hid ((Hc.out.onA _).on hb21)
           replace Hi := Lib.hid ((Hi.out.onA _).on hb21)
           replace Habc := Lib.hid ((Habc.out.onA _).on hb21)
           replace Hac := Lib.hid ((Hac.out.onA _).on hb21)
           replace HB := Lib.hid (after (after HB.out (below_alloc _ _)) hb21)
           have Hr := Lib.hid hs21'
           clear hs21 hs21' hb21
           clear Hac)
        | (go_at_call 8; clear R22; refine (same_i _ _ _ _ _ _ _ _ _ _ Habc.out.2.2.2 Hr.out.2.2.2 Habc.out.n9 Hr.out.n9).mono ?_
           rintro e w22 ⟨rfl, hb22⟩
           rw [eqB_true rfl]
           replace Ha := Lib.hid (Ha.out.on hb22)
           replace Hb := Lib.hid (Hb.out.on hb22)
           replace Hc := Lib.hid (Hc.out.on hb22)
           replace Hi := Lib.hid (Hi.out.on hb22)
           replace Habc := Lib.hid (Habc.out.on hb22)
           replace Hr := Lib.hid (Hr.out.on hb22)
           replace HB := Lib.hid (after HB.out hb22)
           clear hb22
           clear Habc
           clear Hr)
        | (go_at_call 12; clear R23; refine (runs_any _).mono ?_
           rintro e w23 ⟨rfl, hb23⟩
           replace Ha := Lib.hid (Ha.out.on hb23)
           replace Hb := Lib.hid (Hb.out.on hb23)
           replace Hc := Lib.hid (Hc.out.on hb23)
           replace Hi := Lib.hid (Hi.out.on hb23)
           replace HB := Lib.hid (after HB.out hb23)
           clear hb23)
        | fail)

    go_ret
    exact ⟨rfl, HB.out⟩
  · exact runs (by omega)
end Go.Proofs.Ythgjpdbajmfclaa
