/-
  Decode of the program: what it tells of any bytes; conditions: lengths that fit an int.
-/
import Derived.Test.YtokjeglhmmijfaaBk5
namespace Go.Proofs.Ytokjeglhmmijfaa
open Go.RowKit Go.WideShapes Go.ChangeShapes
set_option linter.all false
theorem Mid.reads {w : World} {N : Nat} {t : TypeId} {κ : IntKind} {A : Option Addr} {n c : Nat} {xs : List Int} (h : Mid w N t 1 (.slice A n c) n (ks κ xs)) : Reads w w.heap.size 1 A n (ks κ xs) := by
  refine ⟨h.1, fun hn => ?_⟩
  rcases h.2 with ⟨h', h0⟩ | ⟨g, off, cap, cur, h', hb, hh, _⟩
  · omega
  · simp only [Value.slice.injEq, true_and] at h'
    obtain ⟨rfl, rfl⟩ := h'
    refine ⟨_, rfl, ?_, fun j u hu => ?_⟩
    · exact (h.lt g rfl).2
    · have e : (⟨g, off, none⟩ : Addr).add j = ⟨g, off + j, none⟩ := by unfold Addr.add; split <;> simp_all
      rw [e]; exact h.cells j u hu
theorem Mid.len {w : World} {N : Nat} {t : TypeId} {κ : IntKind} {v : Value} {n : Nat} {xs : List Int} (h : Mid w N t 1 v n (ks κ xs)) : xs.length = n := by
  have := h.1; rw [ks_len] at this; omega
/-- What Decode answers. -/
def DecPost (o : Option (List Nat)) (w : World) (e : Ending) (w' : World) : Prop :=
  ∃ (v : Value) (l : List Nat) (code : Int), e = .returned (.tuple #[v, .int .i64 code]) ∧ Below w.heap.size w w' ∧ Mid w' w.heap.size 3 1 v l.length (ks .i64 (nb l)) ∧ ((o = some l ∧ code = 0) ∨ (o = none ∧ l = [] ∧ code = 5))
theorem nb_len (l : List Nat) : (nb l).length = l.length := by simp [nb]
theorem nb_drop (l : List Nat) (k : Nat) : nb (l.drop k) = (nb l).drop k := by unfold nb; rw [List.map_drop]
theorem ks_drop (κ : IntKind) (l : List Int) (k : Nat) : ks κ (l.drop k) = (ks κ l).drop k := by unfold ks; rw [List.map_drop]
theorem nb_inj {a b : List Nat} (h : nb a = nb b) : a = b := by
  induction a generalizing b with
  | nil => cases b with
    | nil => rfl
    | cons y s => simp [nb] at h
  | cons x r ih => cases b with
    | nil => simp [nb] at h
    | cons y s =>
      simp only [nb, List.map_cons, List.cons.injEq] at h
      rw [ih h.2, Int.ofNat.inj h.1]
theorem decP_of {bs acc : List Nat} (h : readQ bs 0 [] = some acc) : decP bs = if rightN acc = true ∧ encGo 0 acc = bs then some acc else none := by
  unfold decP; rw [h]
theorem decP_no {bs : List Nat} (h : readQ bs 0 [] = none) : decP bs = none := by unfold decP; rw [h]
set_option maxRecDepth 100000 in
set_option maxHeartbeats 1600000 in
theorem decode_any (A : Option Addr) (n c : Nat) (bs : List Nat) (w : World) (hx : Reads w w.heap.size 1 A n (ks .u8 (nb bs))) (hb : ∀ b ∈ bs, b < 256) (hc : n ≤ c) (hn : n ≤ 9223372036854775807) :
    Calls Try.prog 47 #[.slice A n c] w (DecPost (decP bs) w) := by
  obtain ⟨i0, hi0, hz0, hz1, hz2⟩ := info_parts infoI
  have LX : Hid (bs.length = n) := Lib.hid (by have := hx.kl; rwa [nb_len] at this)
  have HB := Lib.hid hb
  clear hb
  go_enter Try.func47, Try.ntmps47
  go_wp2
  go_loopw [4, 5, 6] (fun b p i wr => ∃ (v1 : Value) (acc : List Nat) (q at_ : Nat), b = v1 ∧ p = .int .i64 q ∧ i = .int .i64 at_ ∧ at_ ≤ n ∧ acc.length ≤ 16 ∧ q ≤ acc.length * 68719476736 ∧ Hid (Mid wr w.heap.size 3 1 v1 acc.length (ks .i64 (nb acc)) ∧ Below w.heap.size w wr ∧ readQ bs 0 [] = readQ (bs.drop at_) q acc)) (fun _ _ i _ => n - (intOf i).toNat)
  case atStart => exact ⟨_, [], 0, 0, rfl, rfl, rfl, Nat.zero_le _, by simp, by simp, Lib.hid ⟨Mid.nil _ _ _ _, Below.refl _ _, rfl⟩⟩
  case round =>
    obtain ⟨v1, acc, q, at_, hv, rfl, rfl, hat, hacc, hq, HI⟩ := hrel
    subst hv
    obtain ⟨A1, c1, hv⟩ := HI.out.1.form
    subst hv
    have hq9 : q ≤ 1099511627776 := by omega
    by_cases hlt : at_ < n
    · obtain ⟨ad, rfl, _⟩ := hx.kat hlt
      have hi1 : (at_ : Int) < n := by omega
      have hi0' : (0 : Int) ≤ at_ := by omega
      have hi2 : (at_ : Int) ≤ n := by omega
      have hi3 : (n : Int) ≤ c := by omega
      have hi4 : ¬ c = at_ := by omega
      have hcut := (hx.below HI.out.2.1).cut (k := at_) (by omega) hc
      rw [if_neg hi4, Nat.mul_one, ← ks_drop, ← nb_drop] at hcut
      have HC := Lib.hid hcut
      have hbd := numP_bd (bs.drop at_) 0 0 (by simp) (by omega)
      have hle := numP_le (bs.drop at_) 0 0
      rw [List.length_drop, LX.out] at hle
      have HS := fun (P : Prop) (h : bs.drop at_ ≠ [] → P) => h (by intro e; have := congrArg List.length e; rw [List.length_drop, LX.out] at this; simp at this; omega)
      have HNE := Lib.hid (HS _ id)
      clear HS hcut
      obtain ⟨m, sz, hms⟩ : ∃ m sz, numP (bs.drop at_) 0 0 = (m, sz) := ⟨_, _, rfl⟩
      rw [hms] at hbd hle
      have hm9 : m < 34359738368 := hbd.1
      have hs9 : sz ≤ 5 := hbd.2
      have hle' : sz ≤ n - at_ := by have : sz ≤ 0 + (n - at_) := hle; omega
      have HNUM : Hid (Calls Try.prog 53 #[.slice (some (ad.add at_)) (n - at_) (c - at_)] wr fun e w' => e = .returned (.tuple #[.int .i64 m, .int .i64 sz]) ∧ w' = wr) := Lib.hid (by
        have := number_any w.heap.size (some (ad.add at_)) (n - at_) (c - at_) (bs.drop at_) wr HC.out (fun b h => HB.out b (List.mem_of_mem_drop h)) (by omega)
        rw [hms] at this; exact this)
      have HMS := Lib.hid hms
      clear hbd hle hms
      by_cases hz : sz = 0
      · have HF : Hid (decP bs = none) := Lib.hid (decP_no (HI.out.2.2.trans (readQ_bad HNE.out (.inl (by rw [HMS.out]; exact hz)))))
        subst hz
        go_wp2_with (first
          | (go_at_call 53; refine HNUM.out.mono ?_; rintro e w2 ⟨rfl, hw2⟩; rw [hw2]; clear hw2)
          | fail)
        go_ret2
        exact ⟨_, [], 5, rfl, HI.out.2.1, Mid.nil _ _ _ _, .inr ⟨HF.out, rfl, rfl⟩⟩
      · have hzb : ((sz : Int) == 0) = false := by simpa using hz
        generalize hL : acc.length = L at *
        have HL := Lib.hid hL
        clear hL
        by_cases h16 : L = 16
        · have HF : Hid (decP bs = none) := Lib.hid (decP_no (HI.out.2.2.trans (readQ_bad HNE.out (.inr (by rw [HL.out]; exact h16)))))
          subst h16
          go_wp2_with (first
            | (go_at_call 53; refine HNUM.out.mono ?_; rintro e w2 ⟨rfl, hw2⟩; rw [hw2]; clear hw2)
            | fail)
          go_ret2
          exact ⟨_, [], 5, rfl, HI.out.2.1, Mid.nil _ _ _ _, .inr ⟨HF.out, rfl, rfl⟩⟩
        · have h161 : ((L : Int) == 16) = false := by simp; omega
          have HQ := Lib.hid (HI.out.2.2.trans (readQ_step HNE.out (by rw [HMS.out, HL.out]; simp only; omega)))
          have hL15 : L < 16 := by omega
          clear h16
          go_wp2_with (first
            | (go_at_call 53; refine HNUM.out.mono ?_; rintro e w2 ⟨rfl, hw2⟩; rw [hw2]; clear hw2)
            | (refine wpList_append_mid rfl (.tmp 30) (.tmp 34) 28 rfl w.heap.size 3 i0 _ 1 8 Try.underlying28 hi0 hz0 hz1 hz2 rfl (by omega) (.slice A1 L c1) _ _ rfl (HI.out.1.same fun g hg => Below.heap_alloc wr _ g (HI.out.1.lt g hg).2) ⟨wr.heap.size, 0, none⟩ 1 1 [.int .i64 _] rfl rfl (World.news_of_block (cs := #[.int .i64 _]) (t := 3) (fr := (0, 0)) (heap_alloc_new wr _)) (by simp [Value.oneCell']) (by unfold maxLen; omega) (by omega) (by have := HI.out.2.1.size; simp; omega) ?_
               intro v' w3 hmm hran
               have HMM := Lib.hid hmm
               have HRN := Lib.hid hran
               clear hmm hran)
            | fail)
          have HN : Hid (Mid w3 w.heap.size 3 1 v' (acc ++ [q + m]).length (ks .i64 (nb (acc ++ [q + m]))) ∧ Below w.heap.size w w3 ∧ readQ bs 0 [] = readQ (bs.drop (at_ + sz)) (q + m + 1) (acc ++ [q + m])) := Lib.hid ⟨by
              have hmm := HMM.out
              rw [List.length_append, HL.out, nb_append, ks_append]
              rw [show (q : Int) + m = ((q + m : Nat) : Int) by omega] at hmm
              exact hmm, HI.out.2.1.grown (HRN.out.alloc).grown HI.out.2.1.size fun g hg => (HI.out.1.lt g hg).1, by
              have := HQ.out
              rw [HMS.out, List.drop_drop] at this
              exact this⟩
          clear HMM HRN
          go_roundw
          case rel => exact ⟨_, acc ++ [q + m], q + m + 1, at_ + sz, rfl, by go_num, by go_num, by omega, by rw [List.length_append, HL.out]; simp; omega, by rw [List.length_append, HL.out]; simp; omega, HN⟩
          case measure => simp only [intOf]; omega
    · obtain rfl : at_ = n := by omega
      have HRD : Hid (readQ bs 0 [] = some acc) := Lib.hid (by rw [HI.out.2.2, List.drop_of_length_le (by rw [LX.out]; omega), readQ_nil])
      have hc1' : acc.length ≤ c1 := by
        rcases HI.out.1.2 with ⟨h', h0⟩ | ⟨g', off', cap', cur', h', _, _, hnc, _⟩
        · omega
        · simp only [Value.slice.injEq] at h'
          obtain ⟨_, _, rfl⟩ := h'
          exact hnc
      have HRx := Lib.hid HI.out.1.reads
      generalize hL : acc.length = L at *
      have HL := Lib.hid hL
      clear hL
      by_cases h0 : L = 0
      · have hac : acc = [] := List.eq_nil_of_length_eq_zero (by rw [HL.out]; exact h0)
        subst h0
        subst hac
        have HF : Hid (decP bs = none) := Lib.hid (by rw [decP_of HRD.out, if_neg (by simp [rightN])])
        go_wp2
        go_ret2
        exact ⟨_, [], 5, rfl, HI.out.2.1, Mid.nil _ _ _ _, .inr ⟨HF.out, rfl, rfl⟩⟩
      · have hL0 : ((L : Int) == 0) = false := by simp; omega
        have hLp : 0 < L := by omega
        clear h0
        go_wp2_with (first
          | (go_at_call 32; refine (encode_any A1 L c1 (nb acc) wr HRx.out (by omega)).mono ?_; rintro e w3 ⟨v3, b3, rfl, hb3, hm3, h100, hby, hor⟩
             have HB3 := Lib.hid hb3
             have HM3 := Lib.hid hm3
             have HO3 := Lib.hid hor
             have H100 := Lib.hid h100
             clear hb3 hm3 h100 hby hor
             obtain ⟨A3, c3, e3⟩ := HM3.out.form
             subst e3)
          | (go_at_call 54; refine (equal_b w3.heap.size A3 _ _ at_ _ c (nb b3) (nb bs) w3 HM3.out.reads (((hx.below HI.out.2.1).more HI.out.2.1.size).below HB3.out |>.more HB3.out.size) (by have := H100.out; omega) (by omega)).mono ?_; rintro e w4 ⟨rfl, hb4⟩; have HB4 := Lib.hid hb4; clear hb4)
          | fail)
        · have hq : eqB (nb b3) (nb bs) = false := by first | assumption | (rename_i hq; simpa using hq)
          have HF : Hid (decP bs = none) := Lib.hid (by
            rw [decP_of HRD.out, if_neg]
            rintro ⟨r1, r2⟩
            rcases HO3.out with ⟨h1, h2⟩ | ⟨l, h1, h2, h3⟩
            · have := rightI_cast acc
              rw [r1] at this
              rw [show nb acc = acc.map Nat.cast from rfl, this] at h1
              cases h1
            · have := nb_inj (show nb acc = nb l from h1)
              subst this
              rw [h3, r2] at hq
              unfold eqB at hq
              simp at hq)
          go_ret2
          exact ⟨_, [], 5, rfl, after HI.out.2.1 (after HB3.out HB4.out), Mid.nil _ _ _ _, .inr ⟨HF.out, rfl, rfl⟩⟩
        · have hq : eqB (nb b3) (nb bs) = true := by first | assumption | (rename_i hq; simpa using hq)
          have HF : Hid (decP bs = some acc) := Lib.hid (by
            unfold eqB at hq
            have hq' := nb_inj (of_decide_eq_true hq)
            rcases HO3.out with ⟨h1, h2⟩ | ⟨l, h1, h2, h3⟩
            · exfalso
              rw [h2] at hq'
              subst hq'
              have h4 := HRD.out
              rw [readQ_nil] at h4
              injection h4 with h4
              rw [← h4] at HL
              have := HL.out
              simp at this
              omega
            · have := nb_inj (show nb acc = nb l from h1)
              subst this
              rw [decP_of HRD.out, if_pos ⟨h2, by rw [← h3]; exact hq'⟩])
          go_ret2
          refine ⟨_, acc, 0, rfl, after HI.out.2.1 (after HB3.out HB4.out), ?_, .inl ⟨HF.out, rfl⟩⟩
          rw [HL.out]
          exact (HI.out.1.same fun g hg => HB3.out.block g (HI.out.1.lt g hg).2).same fun g hg => HB4.out.block g (Nat.lt_of_lt_of_le (HI.out.1.lt g hg).2 HB3.out.size)
end Go.Proofs.Ytokjeglhmmijfaa
