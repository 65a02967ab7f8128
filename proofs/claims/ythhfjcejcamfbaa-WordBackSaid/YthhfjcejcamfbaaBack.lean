/-
  The law WordBack at whatever numbers: reckoned by a verified evaluator, the numbers being tokens; no condition.
-/
import Derived.Test.YthhfjcejcamfbaaApart
import Derived.Laws.BitsLemmas
namespace Go.Proofs.Ythhfjcejcamfbaa
open Go.RowKit
set_option linter.all false
set_option maxRecDepth 1000000
def bR (l : Bool) : Value := tk (cond l 14 12)
def bQ (l : Bool) : Value := tk (cond l 15 13)
def sh (k : Nat) : Value := .int .u64 (Int.ofNat k)
def bRows (l al e1 e2 : Bool) : List Ev.BRow := [⟨.add, num 1, tk 6, tk 8⟩, ⟨.add, num 1, tk 7, tk 9⟩,
  ⟨.lss, tk 4, num 0, .bool false⟩, ⟨.lss, tk 5, num 0, .bool false⟩, ⟨.geq, tk 4, num 1024, .bool false⟩, ⟨.geq, tk 5, num 1024, .bool false⟩,
  ⟨.lss, tk 8, num 1, .bool false⟩, ⟨.lss, tk 9, num 1, .bool false⟩, ⟨.gtr, tk 8, num 1073741824, .bool false⟩, ⟨.gtr, tk 9, num 1073741824, .bool false⟩,
  ⟨.shl, tk 8, sh 16, tk 10⟩, ⟨.shl, tk 9, sh 16, tk 11⟩, ⟨.or, tk 10, tk 4, tk 12⟩, ⟨.or, tk 11, tk 5, tk 13⟩, ⟨.or, tk 12, num 281474976710656, tk 14⟩, ⟨.or, tk 13, num 281474976710656, tk 15⟩,
  ⟨.and, bR l, num 65535, tk 4⟩, ⟨.shr, bR l, sh 16, tk 16⟩, ⟨.and, tk 16, num 4294967295, tk 8⟩, ⟨.shr, bR l, sh 48, num (cond l 1 0)⟩,
  ⟨.eql, bR l, num 0, .bool false⟩, ⟨.neq, bR l, bR l, .bool false⟩, ⟨.gtr, bR l, num 0, .bool true⟩, ⟨.eql, tk 4, tk 4, .bool true⟩, ⟨.eql, tk 8, tk 8, .bool true⟩,
  ⟨.eql, bR l, bQ al, .bool (e1 && (e2 && (l == al)))⟩, ⟨.eql, tk 4, tk 5, .bool e1⟩, ⟨.eql, tk 8, tk 9, .bool e2⟩]
def oRows : List Ev.ORow := [⟨7, [tk 0, num 0, num 1023], tk 4⟩, ⟨7, [tk 2, num 0, num 1023], tk 5⟩, ⟨7, [tk 1, num 0, num 1073741823], tk 6⟩, ⟨7, [tk 3, num 0, num 1073741823], tk 7⟩, tRow 10]
theorem back_tttt : Ev.isTrue (@Ev.runF (Ev.tabSym (bRows true true true true) [] []) Try.prog (Ev.orcOf oRows [] []) 20000 (.fn 3 [tk 0, tk 1, tk 2, tk 3, .bool true, .bool true] Ev.st0)) = true := by kernel_rfl
theorem back_tttf : Ev.isTrue (@Ev.runF (Ev.tabSym (bRows true true true false) [] []) Try.prog (Ev.orcOf oRows [] []) 20000 (.fn 3 [tk 0, tk 1, tk 2, tk 3, .bool true, .bool true] Ev.st0)) = true := by kernel_rfl
theorem back_ttft : Ev.isTrue (@Ev.runF (Ev.tabSym (bRows true true false true) [] []) Try.prog (Ev.orcOf oRows [] []) 20000 (.fn 3 [tk 0, tk 1, tk 2, tk 3, .bool true, .bool true] Ev.st0)) = true := by kernel_rfl
theorem back_ttff : Ev.isTrue (@Ev.runF (Ev.tabSym (bRows true true false false) [] []) Try.prog (Ev.orcOf oRows [] []) 20000 (.fn 3 [tk 0, tk 1, tk 2, tk 3, .bool true, .bool true] Ev.st0)) = true := by kernel_rfl
theorem back_tftt : Ev.isTrue (@Ev.runF (Ev.tabSym (bRows true false true true) [] []) Try.prog (Ev.orcOf oRows [] []) 20000 (.fn 3 [tk 0, tk 1, tk 2, tk 3, .bool true, .bool false] Ev.st0)) = true := by kernel_rfl
theorem back_tftf : Ev.isTrue (@Ev.runF (Ev.tabSym (bRows true false true false) [] []) Try.prog (Ev.orcOf oRows [] []) 20000 (.fn 3 [tk 0, tk 1, tk 2, tk 3, .bool true, .bool false] Ev.st0)) = true := by kernel_rfl
theorem back_tfft : Ev.isTrue (@Ev.runF (Ev.tabSym (bRows true false false true) [] []) Try.prog (Ev.orcOf oRows [] []) 20000 (.fn 3 [tk 0, tk 1, tk 2, tk 3, .bool true, .bool false] Ev.st0)) = true := by kernel_rfl
theorem back_tfff : Ev.isTrue (@Ev.runF (Ev.tabSym (bRows true false false false) [] []) Try.prog (Ev.orcOf oRows [] []) 20000 (.fn 3 [tk 0, tk 1, tk 2, tk 3, .bool true, .bool false] Ev.st0)) = true := by kernel_rfl
theorem back_fttt : Ev.isTrue (@Ev.runF (Ev.tabSym (bRows false true true true) [] []) Try.prog (Ev.orcOf oRows [] []) 20000 (.fn 3 [tk 0, tk 1, tk 2, tk 3, .bool false, .bool true] Ev.st0)) = true := by kernel_rfl
theorem back_fttf : Ev.isTrue (@Ev.runF (Ev.tabSym (bRows false true true false) [] []) Try.prog (Ev.orcOf oRows [] []) 20000 (.fn 3 [tk 0, tk 1, tk 2, tk 3, .bool false, .bool true] Ev.st0)) = true := by kernel_rfl
theorem back_ftft : Ev.isTrue (@Ev.runF (Ev.tabSym (bRows false true false true) [] []) Try.prog (Ev.orcOf oRows [] []) 20000 (.fn 3 [tk 0, tk 1, tk 2, tk 3, .bool false, .bool true] Ev.st0)) = true := by kernel_rfl
theorem back_ftff : Ev.isTrue (@Ev.runF (Ev.tabSym (bRows false true false false) [] []) Try.prog (Ev.orcOf oRows [] []) 20000 (.fn 3 [tk 0, tk 1, tk 2, tk 3, .bool false, .bool true] Ev.st0)) = true := by kernel_rfl
theorem back_fftt : Ev.isTrue (@Ev.runF (Ev.tabSym (bRows false false true true) [] []) Try.prog (Ev.orcOf oRows [] []) 20000 (.fn 3 [tk 0, tk 1, tk 2, tk 3, .bool false, .bool false] Ev.st0)) = true := by kernel_rfl
theorem back_fftf : Ev.isTrue (@Ev.runF (Ev.tabSym (bRows false false true false) [] []) Try.prog (Ev.orcOf oRows [] []) 20000 (.fn 3 [tk 0, tk 1, tk 2, tk 3, .bool false, .bool false] Ev.st0)) = true := by kernel_rfl
theorem back_ffft : Ev.isTrue (@Ev.runF (Ev.tabSym (bRows false false false true) [] []) Try.prog (Ev.orcOf oRows [] []) 20000 (.fn 3 [tk 0, tk 1, tk 2, tk 3, .bool false, .bool false] Ev.st0)) = true := by kernel_rfl
theorem back_ffff : Ev.isTrue (@Ev.runF (Ev.tabSym (bRows false false false false) [] []) Try.prog (Ev.orcOf oRows [] []) 20000 (.fn 3 [tk 0, tk 1, tk 2, tk 3, .bool false, .bool false] Ev.st0)) = true := by kernel_rfl
theorem back_all : ∀ l al e1 e2, Ev.isTrue (@Ev.runF (Ev.tabSym (bRows l al e1 e2) [] []) Try.prog (Ev.orcOf oRows [] []) 20000 (.fn 3 [tk 0, tk 1, tk 2, tk 3, .bool l, .bool al] Ev.st0)) = true
  | true, true, true, true => back_tttt
  | true, true, true, false => back_tttf
  | true, true, false, true => back_ttft
  | true, true, false, false => back_ttff
  | true, false, true, true => back_tftt
  | true, false, true, false => back_tftf
  | true, false, false, true => back_tfft
  | true, false, false, false => back_tfff
  | false, true, true, true => back_fttt
  | false, true, true, false => back_fttf
  | false, true, false, true => back_ftft
  | false, true, false, false => back_ftff
  | false, false, true, true => back_fftt
  | false, false, true, false => back_fftf
  | false, false, false, true => back_ffft
  | false, false, false, false => back_ffff
def bTok (n0 n1 n2 n3 : Int) (S T K J : Nat) (l : Bool) (i : Nat) : Int :=
  match i with
  | 0 => n0
  | 1 => n1
  | 2 => n2
  | 3 => n3
  | 4 => (S : Nat)
  | 5 => (T : Nat)
  | 6 => (K : Nat)
  | 7 => (J : Nat)
  | 8 => (K + 1 : Nat)
  | 9 => (J + 1 : Nat)
  | 10 => ((K + 1) * 65536 : Nat)
  | 11 => ((J + 1) * 65536 : Nat)
  | 12 => ((K + 1) * 65536 + S : Nat)
  | 13 => ((J + 1) * 65536 + T : Nat)
  | 14 => ((K + 1) * 65536 + S + 281474976710656 : Nat)
  | 15 => ((J + 1) * 65536 + T + 281474976710656 : Nat)
  | _ => (K + 1 + cond l 4294967296 0 : Nat)
section
variable [Ev.Tok] [Ev.Sym]
theorem p63 : (2 : Int) ^ 63 = 9223372036854775808 := by decide
theorem hk63 (n : Int) (h0 : 0 ≤ n) (h1 : n < 2 ^ 63) : IntKind.i64.wrap n = n := by
  rw [p63] at h1; rw [IntKind.wrap_i64]; omega
theorem i_bits {op : BinOp} {x y v : Value} {a b r : Nat} (ho : (op = .and ∧ a &&& b = r) ∨ (op = .or ∧ a ||| b = r)) (ha : a < 9223372036854775808) (hb : b < 9223372036854775808) (hx : ∀ γ, Ev.ren γ x = .int .i64 (a : Int)) (hy : ∀ γ, Ev.ren γ y = .int .i64 (b : Int)) (hv : ∀ γ, Ev.ren γ v = .int .i64 (r : Int)) (hw : Ev.Wf 0 v) : (Ev.BRow.mk op x y v).ok Try.prog := by
  have hp : (2 : Nat) ^ 63 = 9223372036854775808 := by decide
  have h := bits_nat .i64 63 (by decide) hk63 a b (by rw [hp]; exact ha) (by rw [hp]; exact hb)
  rcases ho with ⟨rfl, hr⟩ | ⟨rfl, hr⟩
  · exact Ev.brow_int (k := .i64) (a := a) (b := b) rfl hx hy (u := .int .i64 (bits .and .i64 a b)) rfl (fun γ => by rw [h.1, hr]; exact hv γ) hw
  · exact Ev.brow_int (k := .i64) (a := a) (b := b) rfl hx hy (u := .int .i64 (bits .or .i64 a b)) rfl (fun γ => by rw [h.2, hr]; exact hv γ) hw
theorem i_add {x y v : Value} {a b r : Nat} (ha : a + b < 9223372036854775808) (hx : ∀ γ, Ev.ren γ x = .int .i64 (a : Int)) (hy : ∀ γ, Ev.ren γ y = .int .i64 (b : Int)) (hr : a + b = r) (hv : ∀ γ, Ev.ren γ v = .int .i64 (r : Int)) (hw : Ev.Wf 0 v) : (Ev.BRow.mk .add x y v).ok Try.prog :=
  Ev.brow_int (k := .i64) (a := a) (b := b) rfl hx hy (u := .int .i64 (IntKind.i64.wrap ((a : Int) + (b : Int)))) rfl (fun γ => by rw [w64 (by omega) (by omega), show (a : Int) + (b : Int) = (r : Int) from by omega]; exact hv γ) hw
theorem i_cmp {op : BinOp} {x y : Value} {a b : Nat} {e : Bool} (ho : (op = .lss ∧ decide (a < b) = e) ∨ (op = .geq ∧ decide (b ≤ a) = e) ∨ (op = .gtr ∧ decide (b < a) = e) ∨ (op = .eql ∧ decide (a = b) = e) ∨ (op = .neq ∧ decide (a = b) = !e)) (hx : ∀ γ, Ev.ren γ x = .int .i64 (a : Int)) (hy : ∀ γ, Ev.ren γ y = .int .i64 (b : Int)) : (Ev.BRow.mk op x y (.bool e)).ok Try.prog := by
  rcases ho with ⟨rfl, h⟩ | ⟨rfl, h⟩ | ⟨rfl, h⟩ | ⟨rfl, h⟩ | ⟨rfl, h⟩
  · refine Ev.brow_int (k := .i64) (a := a) (b := b) rfl hx hy (u := .bool (decide ((a : Int) < (b : Int)))) rfl (fun γ => ?_) trivial
    rw [← h, decide_eq_decide.2 (show ((a : Int) < (b : Int)) ↔ a < b from by omega)]; rfl
  · refine Ev.brow_int (k := .i64) (a := a) (b := b) rfl hx hy (u := .bool (decide ((a : Int) ≥ (b : Int)))) rfl (fun γ => ?_) trivial
    rw [← h, decide_eq_decide.2 (show ((a : Int) ≥ (b : Int)) ↔ b ≤ a from by omega)]; rfl
  · refine Ev.brow_int (k := .i64) (a := a) (b := b) rfl hx hy (u := .bool (decide ((a : Int) > (b : Int)))) rfl (fun γ => ?_) trivial
    rw [← h, decide_eq_decide.2 (show ((a : Int) > (b : Int)) ↔ b < a from by omega)]; rfl
  · refine Ev.brow_int (k := .i64) (a := a) (b := b) rfl hx hy (u := .bool ((a : Int) == (b : Int))) rfl (fun γ => ?_) trivial
    have : ((a : Int) == (b : Int)) = decide (a = b) := by
      by_cases q : a = b
      · simp [q]
      · have q2 : ¬ (a : Int) = (b : Int) := by omega
        simp [q, q2]
    rw [this, h]; rfl
  · refine Ev.brow_int (k := .i64) (a := a) (b := b) rfl hx hy (u := .bool ((a : Int) != (b : Int))) rfl (fun γ => ?_) trivial
    have : ((a : Int) != (b : Int)) = !decide (a = b) := by
      by_cases q : a = b
      · simp [q]
      · have q2 : ¬ (a : Int) = (b : Int) := by omega
        simp [q, q2]
    rw [this, h, Bool.not_not]; rfl
theorem i_shl16 {x v : Value} {a r : Nat} (ha : a < 1099511627776) (hx : ∀ γ, Ev.ren γ x = .int .i64 (a : Int)) (hr : a * 65536 = r) (hv : ∀ γ, Ev.ren γ v = .int .i64 (r : Int)) (hw : Ev.Wf 0 v) : (Ev.BRow.mk .shl x (sh 16) v).ok Try.prog :=
  Ev.brow_shift (k := .i64) (k' := .u64) (a := a) (b := 16) hx (fun _ => rfl) (u := .int .i64 (IntKind.i64.wrap ((a : Int) * 65536))) (by rfl) (fun γ => by rw [w64 (by omega) (by omega), show (a : Int) * 65536 = (r : Int) from by omega]; exact hv γ) hw
theorem i_shr16 {x v : Value} {a r : Nat} (hx : ∀ γ, Ev.ren γ x = .int .i64 (a : Int)) (hr : a / 65536 = r) (hv : ∀ γ, Ev.ren γ v = .int .i64 (r : Int)) (hw : Ev.Wf 0 v) : (Ev.BRow.mk .shr x (sh 16) v).ok Try.prog :=
  Ev.brow_shift (k := .i64) (k' := .u64) (a := a) (b := 16) hx (fun _ => rfl) (u := .int .i64 ((a : Int).fdiv 65536)) (by rfl) (fun γ => by rw [Int.fdiv_eq_ediv_of_nonneg _ (by omega), show (a : Int) / 65536 = (r : Int) from by omega]; exact hv γ) hw
theorem i_shr48 {x v : Value} {a r : Nat} (hx : ∀ γ, Ev.ren γ x = .int .i64 (a : Int)) (hr : a / 281474976710656 = r) (hv : ∀ γ, Ev.ren γ v = .int .i64 (r : Int)) (hw : Ev.Wf 0 v) : (Ev.BRow.mk .shr x (sh 48) v).ok Try.prog :=
  Ev.brow_shift (k := .i64) (k' := .u64) (a := a) (b := 48) hx (fun _ => rfl) (u := .int .i64 ((a : Int).fdiv 281474976710656)) (by rfl) (fun γ => by rw [Int.fdiv_eq_ediv_of_nonneg _ (by omega), show (a : Int) / 281474976710656 = (r : Int) from by omega]; exact hv γ) hw
end
theorem nat_or16 (p b : Nat) (h : b < 65536) : p * 65536 ||| b = p * 65536 + b := by
  rw [Nat.mul_comm]; exact (Nat.two_pow_add_eq_or_of_lt (i := 16) h p).symm
theorem nat_or48 (b : Nat) (h : b < 281474976710656) : b ||| 281474976710656 = b + 281474976710656 := by
  have := Nat.two_pow_add_eq_or_of_lt (i := 48) h 1
  rw [Nat.or_comm]
  have e : (2 : Nat) ^ 48 * 1 = 281474976710656 := by decide
  rw [e] at this; omega
theorem nat_and16 (a : Nat) : a &&& 65535 = a % 65536 := Nat.and_two_pow_sub_one_eq_mod a 16
theorem nat_and32 (a : Nat) : a &&& 4294967295 = a % 4294967296 := Nat.and_two_pow_sub_one_eq_mod a 32
set_option maxHeartbeats 4000000 in
theorem back_any (n0 n1 n2 n3 : Int) (l al : Bool) (w : World) : Calls Try.prog 3 #[.int .i64 n0, .int .i64 n1, .int .i64 n2, .int .i64 n3, .bool l, .bool al] w fun e w' => e = .returned (.bool true) ∧ Below w.heap.size w w' := by
  obtain ⟨S, hS, hSl⟩ := withinV_nat n0 1024 (by omega)
  obtain ⟨T, hT, hTl⟩ := withinV_nat n2 1024 (by omega)
  obtain ⟨K, hK, hKl⟩ := withinV_nat n1 1073741824 (by omega)
  obtain ⟨J, hJ, hJl⟩ := withinV_nat n3 1073741824 (by omega)
  letI : Ev.Tok := ⟨bTok n0 n1 n2 n3 S T K J l, fun _ => ByteArray.empty⟩
  letI : Ev.Sym := Ev.noSym
  have hrows : ∀ r ∈ oRows, r.ok Try.prog := by
    intro r hr
    simp only [oRows, List.mem_cons, List.not_mem_nil, or_false] at hr
    rcases hr with rfl | rfl | rfl | rfl | rfl
    · exact tRow_within (by omega) hS
    · exact tRow_within (by omega) hT
    · exact tRow_within (by omega) hK
    · exact tRow_within (by omega) hJ
    · exact tRow_ok wordRuns_any
  have hRv : ∀ γ, Ev.ren γ (bR l) = .int .i64 (((K + 1) * 65536 + S + cond l 281474976710656 0 : Nat) : Int) := fun γ => by cases l <;> rfl
  have hQv : ∀ γ, Ev.ren γ (bQ al) = .int .i64 (((J + 1) * 65536 + T + cond al 281474976710656 0 : Nat) : Int) := fun γ => by cases al <;> rfl
  have hwR : Ev.Wf 0 (bR l) := by cases l <;> trivial
  have hb : ∀ r ∈ bRows l al (decide (S = T)) (decide (K = J)), r.ok Try.prog := by
    intro r hr
    simp only [bRows, List.mem_cons, List.not_mem_nil, or_false] at hr
    rcases hr with rfl | rfl | rfl | rfl | rfl | rfl | rfl | rfl | rfl | rfl | rfl | rfl | rfl | rfl | rfl | rfl | rfl | rfl | rfl | rfl | rfl | rfl | rfl | rfl | rfl | rfl | rfl | rfl
    · exact i_add (a := 1) (b := K) (by omega) (fun _ => rfl) (fun _ => rfl) (Nat.add_comm 1 K) (fun _ => rfl) trivial
    · exact i_add (a := 1) (b := J) (by omega) (fun _ => rfl) (fun _ => rfl) (Nat.add_comm 1 J) (fun _ => rfl) trivial
    · exact i_cmp (a := S) (b := 0) (Or.inl ⟨rfl, decide_eq_false (by omega)⟩) (fun _ => rfl) (fun _ => rfl)
    · exact i_cmp (a := T) (b := 0) (Or.inl ⟨rfl, decide_eq_false (by omega)⟩) (fun _ => rfl) (fun _ => rfl)
    · exact i_cmp (a := S) (b := 1024) (Or.inr (Or.inl ⟨rfl, decide_eq_false (by omega)⟩)) (fun _ => rfl) (fun _ => rfl)
    · exact i_cmp (a := T) (b := 1024) (Or.inr (Or.inl ⟨rfl, decide_eq_false (by omega)⟩)) (fun _ => rfl) (fun _ => rfl)
    · exact i_cmp (a := K + 1) (b := 1) (Or.inl ⟨rfl, decide_eq_false (by omega)⟩) (fun _ => rfl) (fun _ => rfl)
    · exact i_cmp (a := J + 1) (b := 1) (Or.inl ⟨rfl, decide_eq_false (by omega)⟩) (fun _ => rfl) (fun _ => rfl)
    · exact i_cmp (a := K + 1) (b := 1073741824) (Or.inr (Or.inr (Or.inl ⟨rfl, decide_eq_false (by omega)⟩))) (fun _ => rfl) (fun _ => rfl)
    · exact i_cmp (a := J + 1) (b := 1073741824) (Or.inr (Or.inr (Or.inl ⟨rfl, decide_eq_false (by omega)⟩))) (fun _ => rfl) (fun _ => rfl)
    · exact i_shl16 (a := K + 1) (by omega) (fun _ => rfl) rfl (fun _ => rfl) trivial
    · exact i_shl16 (a := J + 1) (by omega) (fun _ => rfl) rfl (fun _ => rfl) trivial
    · exact i_bits (a := (K + 1) * 65536) (b := S) (Or.inr ⟨rfl, nat_or16 _ _ (by omega)⟩) (by omega) (by omega) (fun _ => rfl) (fun _ => rfl) (fun _ => rfl) trivial
    · exact i_bits (a := (J + 1) * 65536) (b := T) (Or.inr ⟨rfl, nat_or16 _ _ (by omega)⟩) (by omega) (by omega) (fun _ => rfl) (fun _ => rfl) (fun _ => rfl) trivial
    · exact i_bits (a := (K + 1) * 65536 + S) (b := 281474976710656) (Or.inr ⟨rfl, nat_or48 _ (by omega)⟩) (by omega) (by omega) (fun _ => rfl) (fun _ => rfl) (fun _ => rfl) trivial
    · exact i_bits (a := (J + 1) * 65536 + T) (b := 281474976710656) (Or.inr ⟨rfl, nat_or48 _ (by omega)⟩) (by omega) (by omega) (fun _ => rfl) (fun _ => rfl) (fun _ => rfl) trivial
    · exact i_bits (b := 65535) (r := S) (Or.inl ⟨rfl, by rw [nat_and16]; cases l <;> simp only [cond] <;> omega⟩) (by cases l <;> simp only [cond] <;> omega) (by omega) hRv (fun _ => rfl) (fun _ => rfl) trivial
    · exact i_shr16 (r := K + 1 + cond l 4294967296 0) hRv (by cases l <;> simp only [cond] <;> omega) (fun _ => rfl) trivial
    · exact i_bits (a := K + 1 + cond l 4294967296 0) (b := 4294967295) (r := K + 1) (Or.inl ⟨rfl, by rw [nat_and32]; cases l <;> simp only [cond] <;> omega⟩) (by cases l <;> simp only [cond] <;> omega) (by omega) (fun _ => rfl) (fun _ => rfl) (fun _ => rfl) trivial
    · exact i_shr48 (r := cond l 1 0) hRv (by cases l <;> simp only [cond] <;> omega) (fun _ => rfl) trivial
    · exact i_cmp (b := 0) (Or.inr (Or.inr (Or.inr (Or.inl ⟨rfl, decide_eq_false (by omega)⟩)))) hRv (fun _ => rfl)
    · exact i_cmp (Or.inr (Or.inr (Or.inr (Or.inr ⟨rfl, by simp⟩)))) hRv hRv
    · exact i_cmp (b := 0) (Or.inr (Or.inr (Or.inl ⟨rfl, decide_eq_true (by omega)⟩))) hRv (fun _ => rfl)
    · exact i_cmp (a := S) (b := S) (Or.inr (Or.inr (Or.inr (Or.inl ⟨rfl, by simp⟩)))) (fun _ => rfl) (fun _ => rfl)
    · exact i_cmp (a := K + 1) (b := K + 1) (Or.inr (Or.inr (Or.inr (Or.inl ⟨rfl, by simp⟩)))) (fun _ => rfl) (fun _ => rfl)
    · refine i_cmp (Or.inr (Or.inr (Or.inr (Or.inl ⟨rfl, ?_⟩)))) hRv hQv
      by_cases h1 : S = T
      · by_cases h2 : K = J
        · subst h1 h2; cases l <;> cases al <;> simp
        · rw [decide_eq_false h2, decide_eq_false]
          · simp
          · cases l <;> cases al <;> simp only [cond] <;> omega
      · rw [decide_eq_false h1, decide_eq_false]
        · simp
        · cases l <;> cases al <;> simp only [cond] <;> omega
    · exact i_cmp (a := S) (b := T) (Or.inr (Or.inr (Or.inr (Or.inl ⟨rfl, rfl⟩)))) (fun _ => rfl) (fun _ => rfl)
    · exact i_cmp (a := K + 1) (b := J + 1) (Or.inr (Or.inr (Or.inr (Or.inl ⟨rfl, decide_eq_decide.2 (by omega)⟩)))) (fun _ => rfl) (fun _ => rfl)
  letI : Ev.Sym := Ev.tabSym (bRows l al (decide (S = T)) (decide (K = J))) [] []
  exact @Ev.calls_true_args _ (Ev.tabSym (bRows l al (decide (S = T)) (decide (K = J))) [] []) Try.prog _ (Ev.tabSym_ok hb (by simp) (by simp)) (Ev.orcOf_ok hrows (by simp) (by simp)) mixed 20000 3 [tk 0, tk 1, tk 2, tk 3, .bool l, .bool al] (by simp [tk, Ev.Wf]) (Ev.fast (back_all _ _ _ _)) w
end Go.Proofs.Ythhfjcejcamfbaa
