/-
  A word appended to the words, as a text of twelve bytes at most; conditions: lengths.
-/
import Derived.Test.YtoffibcplbfokaaTk1
import Derived.Laws.BytesArg
import Derived.StillTailTactics
namespace Go.Proofs.Ytoffibcplbfokaa
open Go.RowKit Go.WideShapes Go.ChangeShapes
set_option linter.all false
theorem Ran.refl (v : Value) (w : World) : Ran v v w w := ⟨World.grownBy.refl w _, .inl rfl⟩
theorem Ran.trans {v v1 v2 : Value} {w w1 w2 : World} (h : Ran v v1 w w1) (k : Ran v1 v2 w1 w2) : Ran v v2 w w2 := by
  refine ⟨⟨k.grown.os.trans h.grown.os, k.grown.tape.trans h.grown.tape, k.grown.output.trans h.grown.output, Nat.le_trans h.grown.size k.grown.size, fun b hb hne => ?_⟩, ?_⟩
  · refine (k.grown.block b (Nat.lt_of_lt_of_le hb h.grown.size) (fun e => ?_)).trans (h.grown.block b hb hne)
    rcases h.at_ with a | a
    · rw [a] at e; exact hne e
    · have := a b e.symm; omega
  · rcases k.at_ with a | a
    · rcases h.at_ with b | b
      · exact .inl (a.trans b)
      · exact .inr fun g hg => b g (by rw [← a]; exact hg)
    · exact .inr fun g hg => Nat.le_trans h.grown.size (a g hg)
theorem Ran.alloc {v v1 : Value} {w w1 : World} {o : Obj} (h : Ran v v1 (w.alloc o) w1) : Ran v v1 w w1 :=
  ⟨⟨h.grown.os, h.grown.tape, h.grown.output, by have := h.grown.size; simp at this; omega, fun b hb hne => (h.grown.block b (by simp; omega) hne).trans (Below.heap_alloc w o b hb)⟩, h.at_.imp id fun k g hg => by have := k g hg; simp at this; omega⟩
theorem Ran.drew {v v1 : Value} {w w1 : World} (h : Ran v v1 w.drew w1) : Ran v v1 w w1 := ⟨⟨h.grown.os, h.grown.tape, h.grown.output, h.grown.size, h.grown.block⟩, h.at_⟩
section
variable {P : Program} {w : World} {size n : Nat} {xs : List Value}
theorem wpList_append_mid {ops : Array Oper} {rest : List Oper} {o : Oper} {a : Act} {Q : Exit → Act → World → Prop} (hg : o.guard = none) (s x : Operand) (t : TypeId)
    (ho : o.op = .call { callee := .builtin .append, args := #[s, x], argTypes := #[t, t] })
    (base : Nat) (e : TypeId) (i : TypeInfo) (z : Value) (size bytes : Nat) (ht : P.underlying t = some (.slice e)) (hi : P.info? e = some i) (hz : i.zero = some z)
    (hsize : i.size = size) (hby : i.bytes = bytes) (hzs : z.cells.size = size) (hsz : 0 < size) (v : Value) (n : Nat) (xs : List Value) (hs : a.eval s = v) (h : Mid w base e size v n xs)
    (ad : Addr) (m c : Nat) (news : List Value) (hx : a.eval x = .slice (some ad) m c) (hl : news.length = m * size) (hnews : ∀ j u, news[j]? = some u → w.cell? (ad.add j) = some u) (h1 : ∀ u ∈ news, u.oneCell' = true)
    (h63 : n + m ≤ maxLen) (hbytes : (n + m) * bytes ≤ 140737488355328) (hbase : base ≤ w.heap.size)
    (hK : ∀ v' w', Mid w' base e size v' (n + m) (xs ++ news) → Ran v v' w w' → wpList P ops Q rest (a.put o.dst v') w') : wpList P ops Q (o :: rest) a w :=
  wpList_plain hg fun K hK' => wp_append_mid s x t ho base e i z size bytes ht hi hz hsize hby hzs hsz v n xs hs h ad m c news hx hl hnews h1 h63 hbytes hbase (fun v' w' q1 q2 => hK' _ _ (hK v' w' q1 q2))
end
theorem infoI : (Try.prog.info? 3).map (fun i => (i.zero, i.size, i.bytes)) = some (some (.int .i64 0), 1, 8) := by kernel_rfl
theorem infoB : (Try.prog.info? 5).map (fun i => (i.zero, i.size, i.bytes)) = some (some (.int .u8 0), 1, 1) := by kernel_rfl
theorem infoS : (Try.prog.info? 9).map (fun i => (i.zero, i.size, i.bytes)) = some (some (.string ⟨#[]⟩), 1, 16) := by kernel_rfl
theorem size3 : (Try.prog.info? 3).map (·.size) = some 1 := by kernel_rfl
theorem size5 : (Try.prog.info? 5).map (·.size) = some 1 := by kernel_rfl
def u8s (l : List UInt8) : List Value := l.map fun c => .int .u8 (c.toNat : Int)
theorem u8s_len (l : List UInt8) : (u8s l).length = l.length := by simp [u8s]
theorem u8s_append (a b : List UInt8) : u8s (a ++ b) = u8s a ++ u8s b := List.map_append
theorem u8s_one (l : List UInt8) : ∀ v ∈ u8s l, v.oneCell' = true := by
  intro v hv
  unfold u8s at hv
  obtain ⟨x, _, rfl⟩ := List.mem_map.1 hv
  rfl
theorem strOf (l : List UInt8) : strOfNums (l.map fun c => (c.toNat : Int)) = bt l := by
  unfold strOfNums bt
  congr 2
  rw [List.map_map]
  have : ((fun n : Int => UInt8.ofNat n.toNat) ∘ fun c : UInt8 => (c.toNat : Int)) = id := by
    funext c; simp
  rw [this]; simp
theorem u8s_get (l : List UInt8) (j : Nat) (h : j < l.length) : (u8s l)[j]? = some (.int .u8 ((l.map fun c => (c.toNat : Int)).getD j 0)) := by
  unfold u8s
  rw [List.getElem?_map, List.getElem?_eq_getElem h, List.getD_eq_getElem?_getD, List.getElem?_map, List.getElem?_eq_getElem h]; rfl
theorem conv_u8 {w : World} {B n k c c' : Nat} {A : Option Addr} {l : List UInt8} (h : Mid w B 5 1 (.slice A n c) n (u8s l)) (hn : 0 < n) (hk : k ≤ n) : (convert 33 9 (.slice A k c')).run Try.prog w = .ok (.string (bt (l.take k))) w := by
  have hl : l.length = n := by have := h.1; rw [u8s_len] at this; omega
  rcases h.2 with ⟨h', h0⟩ | ⟨g, off, cap, cur, h', _⟩
  · omega
  · simp only [Value.slice.injEq, true_and] at h'
    obtain ⟨rfl, rfl⟩ := h'
    rw [← strOf]
    refine run_convert_bytes_arg w 33 5 Try.underlying33 Try.underlying5 g off k c' _ (by simp; omega) (fun i hi => ?_) 9 Try.underlying9
    refine h.cells i _ ?_
    rw [u8s_get l i (by omega)]
    congr 2
    rw [List.getD_eq_getElem?_getD, List.getD_eq_getElem?_getD, List.getElem?_map, List.getElem?_map, List.getElem?_take, if_pos hi]
theorem cutW_ne {bs : List UInt8} {n : Nat} (h : bs.length = n) (h0 : n ≠ 0) : cutW bs = [bs.take 12] := by
  unfold cutW; rw [if_neg (by rintro rfl; exact h0 h.symm)]
set_option maxRecDepth 100000 in
set_option maxHeartbeats 800000 in
theorem appendWord_any (N : Nat) (v : Value) (len : Nat) (l : List (List UInt8)) (M : Nat) (A : Option Addr) (n c : Nat) (bs : List UInt8) (w : World) (h : Mid w N 9 1 v len (strs l)) (hx : Mid w M 5 1 (.slice A n c) n (u8s bs)) (hn : n ≤ 1000) (hN : N ≤ w.heap.size) (hlen : len ≤ 1000) :
    Calls Try.prog 16 #[v, .slice A n c] w fun e w' => ∃ v', e = .returned v' ∧ Mid w' N 9 1 v' (len + (cutW bs).length) (strs (l ++ cutW bs)) ∧ Ran v v' w w' := by
  obtain ⟨i0, hi0, hz0, hz1, hz2⟩ := info_parts infoS
  have LB : Hid (bs.length = n) := Lib.hid (by have := hx.1; rw [u8s_len] at this; omega)
  have H0 := Lib.hid h
  obtain ⟨A0, c0, rfl⟩ := h.form
  clear h
  by_cases h0 : n = 0
  · subst h0
    go_enter Try.func16, Try.ntmps16
    go_wp2
    go_ret
    have e : bs = [] := List.eq_nil_of_length_eq_zero LB.out
    subst e
    exact ⟨_, rfl, by simpa [cutW] using H0.out, Ran.refl _ _⟩
  · have hne : ¬ ((n : Int) = 0) := by omega
    have hb0 : ((n : Int) == 0) = false := by simpa using hne
    have hcap : n ≤ c := by
      rcases hx.2 with ⟨_, h0'⟩ | ⟨g, off, cap, cur, h', _, _, hnc, _⟩
      · omega
      · simp only [Value.slice.injEq, true_and] at h'
        obtain ⟨rfl, rfl⟩ := h'
        exact hnc
    have hc1 := conv_u8 (k := n) (c' := c) hx (by omega) (Nat.le_refl _)
    have HC := Lib.hid (cutW_ne LB.out h0)
    go_enter Try.func16, Try.ntmps16
    by_cases h12 : n ≤ 12
    · have hi12 : (n : Int) ≤ 12 := by omega
      go_wp2_with (first
        | (refine wpList_append_mid rfl (.tmp 9) (.tmp 16) 22 rfl N 9 i0 _ 1 16 Try.underlying22 hi0 hz0 hz1 hz2 rfl (by omega) (.slice A0 len c0) len _ rfl (H0.out.same fun g hg => Below.heap_alloc w _ g (H0.out.lt g hg).2) ⟨w.heap.size, 0, none⟩ 1 1 [.string _] rfl rfl (World.news_of_block (cs := #[.string _]) (t := 9) (fr := (0, 0)) (heap_alloc_new w _)) (by simp [Value.oneCell']) (by unfold maxLen; omega) (by omega) (by simp; omega) ?_
           intro v' w3 hmm hran
           have HMM := Lib.hid hmm
           have HRN := Lib.hid hran
           clear hmm hran)
        | fail)
      go_ret
      refine ⟨_, rfl, ?_, HRN.out.alloc⟩
      have := HMM.out
      have e12 : bs.take 12 = bs := List.take_of_length_le (by rw [LB.out]; exact h12)
      have en : bs.take n = bs := List.take_of_length_le (by rw [LB.out]; exact Nat.le_refl _)
      rw [HC.out, strs_append, e12]
      rw [en] at this
      exact this
    · have hi12 : ¬ (n : Int) ≤ 12 := by omega
      have hi13 : (12 : Int) < n := by omega
      have hc2 := conv_u8 (k := 12) (c' := c) hx (by omega) (by omega)
      have hcap2 : (12 : Int) ≤ c := by omega
      go_wp2_with (first
        | (refine wpList_append_mid rfl (.tmp 9) (.tmp 16) 22 rfl N 9 i0 _ 1 16 Try.underlying22 hi0 hz0 hz1 hz2 rfl (by omega) (.slice A0 len c0) len _ rfl (H0.out.same fun g hg => Below.heap_alloc w _ g (H0.out.lt g hg).2) ⟨w.heap.size, 0, none⟩ 1 1 [.string _] rfl rfl (World.news_of_block (cs := #[.string _]) (t := 9) (fr := (0, 0)) (heap_alloc_new w _)) (by simp [Value.oneCell']) (by unfold maxLen; omega) (by omega) (by simp; omega) ?_
           intro v' w3 hmm hran
           have HMM := Lib.hid hmm
           have HRN := Lib.hid hran
           clear hmm hran)
        | fail)
      go_ret
      refine ⟨_, rfl, ?_, HRN.out.alloc⟩
      have := HMM.out
      rw [HC.out, strs_append]
      exact this
end Go.Proofs.Ytoffibcplbfokaa
