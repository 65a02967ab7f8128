/-
  Numbers appended to bytes, as the program and the document do; conditions: sizes.
-/
import Derived.Test.YtokjeglhmmijfaaBk3
namespace Go.Proofs.Ytokjeglhmmijfaa
open Go.RowKit Go.WideShapes Go.ChangeShapes
set_option linter.all false
theorem Ran.refl (v : Value) (w : World) : Ran v v w w := ⟨World.grownBy.refl w _, .inl rfl⟩
theorem Ran.trans {v v1 v2 : Value} {w w1 w2 : World} (h : Ran v v1 w w1) (k : Ran v1 v2 w1 w2) : Ran v v2 w w2 := by
  refine ⟨⟨k.grown.os.trans h.grown.os, k.grown.tape.trans h.grown.tape, k.grown.output.trans h.grown.output, Nat.le_trans h.grown.size k.grown.size, fun b hb hne => ?_⟩, ?_⟩
  · refine (k.grown.block b (Nat.lt_of_lt_of_le hb h.grown.size) (fun e => ?_)).trans (h.grown.block b hb hne)
    rcases h.at_ with a | a
    · rw [a] at e; exact hne e
    · have := a b e.symm; omega
  · rcases k.at_ with a | a
    · rcases h.at_ with b | b
      · exact .inl (a.trans b)
      · exact .inr fun g hg => b g (by rw [← a]; exact hg)
    · exact .inr fun g hg => Nat.le_trans h.grown.size (a g hg)
theorem Ran.alloc {v v1 : Value} {w w1 : World} {o : Obj} (h : Ran v v1 (w.alloc o) w1) : Ran v v1 w w1 :=
  ⟨⟨h.grown.os, h.grown.tape, h.grown.output, by have := h.grown.size; simp at this; omega, fun b hb hne => (h.grown.block b (by simp; omega) hne).trans (Below.heap_alloc w o b hb)⟩, h.at_.imp id fun k g hg => by have := k g hg; simp at this; omega⟩
theorem Ran.drew {v v1 : Value} {w w1 : World} (h : Ran v v1 w.drew w1) : Ran v v1 w w1 := ⟨⟨h.grown.os, h.grown.tape, h.grown.output, h.grown.size, h.grown.block⟩, h.at_⟩
section
variable {P : Program} {w : World} {size n : Nat} {xs : List Value}
theorem wpList_append_mid {ops : Array Oper} {rest : List Oper} {o : Oper} {a : Act} {Q : Exit → Act → World → Prop} (hg : o.guard = none) (s x : Operand) (t : TypeId)
    (ho : o.op = .call { callee := .builtin .append, args := #[s, x], argTypes := #[t, t] })
    (base : Nat) (e : TypeId) (i : TypeInfo) (z : Value) (size bytes : Nat) (ht : P.underlying t = some (.slice e)) (hi : P.info? e = some i) (hz : i.zero = some z)
    (hsize : i.size = size) (hby : i.bytes = bytes) (hzs : z.cells.size = size) (hsz : 0 < size) (v : Value) (n : Nat) (xs : List Value) (hs : a.eval s = v) (h : Mid w base e size v n xs)
    (ad : Addr) (m c : Nat) (news : List Value) (hx : a.eval x = .slice (some ad) m c) (hl : news.length = m * size) (hnews : ∀ j u, news[j]? = some u → w.cell? (ad.add j) = some u) (h1 : ∀ u ∈ news, u.oneCell' = true)
    (h63 : n + m ≤ maxLen) (hbytes : (n + m) * bytes ≤ 140737488355328) (hbase : base ≤ w.heap.size)
    (hK : ∀ v' w', Mid w' base e size v' (n + m) (xs ++ news) → Ran v v' w w' → wpList P ops Q rest (a.put o.dst v') w') : wpList P ops Q (o :: rest) a w :=
  wpList_plain hg fun K hK' => wp_append_mid s x t ho base e i z size bytes ht hi hz hsize hby hzs hsz v n xs hs h ad m c news hx hl hnews h1 h63 hbytes hbase (fun v' w' q1 q2 => hK' _ _ (hK v' w' q1 q2))
end
theorem numL_len : ∀ (j n : Nat), n < 128 ^ (j + 1) → (numL n).length ≤ j + 1
  | 0, n, h => by rw [numL_small (by simpa using h)]; simp
  | j + 1, n, h => by
    by_cases hs : n < 128
    · rw [numL_small hs]; simp
    · rw [numL_big hs]
      have := numL_len j (n / 128) (by rw [Nat.pow_succ] at h; exact Nat.div_lt_of_lt_mul (by rw [Nat.mul_comm]; exact h))
      simp; omega
theorem and64 (k : Nat) (h : k < 4398046511104) : bits .and .i64 (k : Int) 127 = ((k % 128 : Nat) : Int) := by
  have := bits_mask .i64 63 (by decide) wraps_i64 7 (by decide) (k : Int) (by omega) (by omega)
  simp only [Int.reducePow, Int.reduceSub] at this
  rw [this]; omega
theorem or_checks : ((List.range 128).all fun m => (bits .or .i64 (m : Int) 128 % 256 == ((m + 128 : Nat) : Int)) && (bits .or .u8 ((m : Int) % 256) 128 == ((m + 128 : Nat) : Int))) = true := by kernel_rfl
theorem or64 (k : Nat) (h : k < 4398046511104) : bits .or .i64 (bits .and .i64 (k : Int) 127) 128 % 256 = ((k % 128 + 128 : Nat) : Int) := by
  rw [and64 k h]
  have := List.all_eq_true.1 or_checks (k % 128) (List.mem_range.2 (Nat.mod_lt _ (by omega)))
  rw [Bool.and_eq_true] at this
  simpa using this.1
theorem or8 (k : Nat) (h : k < 4398046511104) : bits .or .u8 (bits .and .i64 (k : Int) 127 % 256) 128 = ((k % 128 + 128 : Nat) : Int) := by
  rw [and64 k h]
  have := List.all_eq_true.1 or_checks (k % 128) (List.mem_range.2 (Nat.mod_lt _ (by omega)))
  rw [Bool.and_eq_true] at this
  simpa using this.2
theorem nb_snoc (ys zs : List Nat) (x : Nat) : ks .u8 (nb (ys ++ (zs ++ [x]))) = ks .u8 (nb (ys ++ zs)) ++ [.int .u8 (x : Int)] := by
  rw [← List.append_assoc, nb_append, ks_append]; rfl
set_option maxRecDepth 100000 in
set_option maxHeartbeats 800000 in
theorem append_any (N : Nat) (v : Value) (len : Nat) (ys : List Nat) (m : Nat) (w : World) (hm : m < 4398046511104) (h : Mid w N 5 1 v len (ks .u8 (nb ys))) (hN : N ≤ w.heap.size) (hlen : len ≤ 1000) :
    Calls Try.prog 44 #[v, .int .i64 m] w fun e w' => ∃ v', e = .returned v' ∧ Mid w' N 5 1 v' (len + (numL m).length) (ks .u8 (nb (ys ++ numL m))) ∧ Ran v v' w w' := by
  obtain ⟨i0, hi0, hz0, hz1, hz2⟩ := info_parts infoB
  have HL := Lib.hid (numL_len 5 m (by simpa using hm))
  have H0 := Lib.hid h
  obtain ⟨A0, c0, rfl⟩ := h.form
  clear h
  go_enter Try.func44, Try.ntmps44
  go_wp2
  go_loopw [0, 1] (fun b i wr => ∃ (v1 : Value) (k : Nat) (zs : List Nat), b = v1 ∧ i = .int .i64 k ∧ k < 4398046511104 ∧ Hid (Mid wr N 5 1 v1 (len + zs.length) (ks .u8 (nb (ys ++ zs))) ∧ Ran (.slice A0 len c0) v1 w wr ∧ zs ++ numL k = numL m)) (fun _ i _ => (intOf i).toNat)
  case atStart => exact ⟨_, m, [], rfl, rfl, hm, Lib.hid ⟨by simpa using H0.out, Ran.refl _ _, rfl⟩⟩
  case round =>
    obtain ⟨v1, k, zs, rfl, rfl, hk, HI⟩ := hrel
    obtain ⟨A1, c1, e1⟩ := HI.out.1.form
    subst e1
    have hzl : zs.length + (numL k).length ≤ 6 := by rw [← List.length_append, HI.out.2.2]; exact HL.out
    have hz1' := numL_ne k
    have hlt : N ≤ wr.heap.size := by have := HI.out.2.1.grown.size; omega
    by_cases hbig : k < 128
    · have hg : ¬ (k : Int) > 127 := by omega
      have hg2 : ¬ (k : Int) ≥ 128 := by omega
      have HE : Hid ((k : Int) % 256 = (k : Int)) := Lib.hid (by omega)
      go_wp2_with (first
        | (refine wpList_append_mid rfl (.tmp 16) (.tmp 19) 66 rfl N 5 i0 _ 1 1 Try.underlying66 hi0 hz0 hz1 hz2 rfl (by omega) (.slice A1 (len + zs.length) c1) _ _ rfl (HI.out.1.same fun g hg => Below.heap_alloc wr _ g (HI.out.1.lt g hg).2) ⟨wr.heap.size, 0, none⟩ 1 1 [.int .u8 _] rfl rfl (World.news_of_block (cs := #[.int .u8 _]) (t := 5) (fr := (0, 0)) (heap_alloc_new wr _)) (by simp [Value.oneCell']) (by unfold maxLen; omega) (by omega) (by simp; omega) ?_
           intro v' w3 hmm hran
           have HMM := Lib.hid hmm
           have HRN := Lib.hid hran
           clear hmm hran)
        | fail)
      have hmm := HMM.out
      have hran := HRN.out
      have e9 : (k : Int) % 256 = (k : Int) := HE.out
      try rw [e9] at hmm
      clear HMM HRN
      go_ret
      have q := HI.out.2.2
      rw [numL_small hbig] at q
      refine ⟨_, rfl, ?_, HI.out.2.1.trans hran.alloc⟩
      rw [← q, nb_snoc, List.length_append]
      exact hmm
    · have hg : (k : Int) > 127 := by omega
      have hg2 : (k : Int) ≥ 128 := by omega
      have HO := Lib.hid (or64 k hk)
      go_wp2_with (first
        | (refine wpList_append_mid rfl (.tmp 9) (.tmp 14) 66 rfl N 5 i0 _ 1 1 Try.underlying66 hi0 hz0 hz1 hz2 rfl (by omega) (.slice A1 (len + zs.length) c1) _ _ rfl (HI.out.1.same fun g hg => Below.heap_alloc wr _ g (HI.out.1.lt g hg).2) ⟨wr.heap.size, 0, none⟩ 1 1 [.int .u8 _] rfl rfl (World.news_of_block (cs := #[.int .u8 _]) (t := 5) (fr := (0, 0)) (heap_alloc_new wr _)) (by simp [Value.oneCell']) (by unfold maxLen; omega) (by omega) (by simp; omega) ?_
           intro v' w3 hmm hran
           have HMM := Lib.hid hmm
           have HRN := Lib.hid hran
           clear hmm hran)
        | fail)
      have hmm := HMM.out
      have hran := HRN.out
      rw [HO.out] at hmm
      clear HMM HRN
      have q := HI.out.2.2
      rw [numL_big hbig] at q
      have HF : Hid (Mid w3 N 5 1 v' (len + (zs ++ [k % 128 + 128]).length) (ks .u8 (nb (ys ++ (zs ++ [k % 128 + 128])))) ∧ Ran (.slice A0 len c0) v' w w3 ∧ (zs ++ [k % 128 + 128]) ++ numL (k / 128) = numL m) := Lib.hid ⟨by rw [nb_snoc, List.length_append]; exact hmm, HI.out.2.1.trans hran.alloc, by rw [List.append_assoc]; exact q⟩
      clear hmm hran q
      go_roundw
      case rel => exact ⟨_, k / 128, zs ++ [k % 128 + 128], rfl, congrArg (Value.int .i64) (by omega), by omega, HF⟩
      case measure => simp only [intOf]; omega
end Go.Proofs.Ytokjeglhmmijfaa
