/-
  script.Term at any int; condition: it is one.
-/
import Derived.Test.YtedjimkpmmacoaaGreatDoorSca
import Derived.Test.YtedjimkpmmacoaaGreatDoorSrc
import Derived.Laws.BytesArg
import Derived.Test.YtedjimkpmmacoaaGreatDoorChecked
import Derived.Deep.RegionHeld3
import Derived.WalkKit
namespace Go.Proofs.YtedjimkpmmacoaaGreatDoor
open Go.RowKit Go.WideShapes Go.ChangeShapes
set_option linter.all false
theorem infoB : (Tryz.prog.info? 5).map (fun i => (i.zero, i.size, i.bytes)) = some (some (.int .u8 0), 1, 1) := by kernel_rfl
theorem Ran.alloc {v v1 : Value} {w w1 : World} {o : Obj} (h : Ran v v1 (w.alloc o) w1) : Ran v v1 w w1 :=
  ⟨⟨h.grown.os, h.grown.tape, h.grown.output, by have := h.grown.size; simp at this; omega, fun b hb hne => (h.grown.block b (by simp; omega) hne).trans (Below.heap_alloc w o b hb)⟩, h.at_.imp id fun k g hg => by have := k g hg; simp at this; omega⟩
section
variable {P : Program} {w : World} {size n : Nat} {xs : List Value}
theorem wpList_append_mid {ops : Array Oper} {rest : List Oper} {o : Oper} {a : Act} {Q : Exit → Act → World → Prop} (hg : o.guard = none) (s x : Operand) (t : TypeId)
    (ho : o.op = .call { callee := .builtin .append, args := #[s, x], argTypes := #[t, t] })
    (base : Nat) (e : TypeId) (i : TypeInfo) (z : Value) (size bytes : Nat) (ht : P.underlying t = some (.slice e)) (hi : P.info? e = some i) (hz : i.zero = some z)
    (hsize : i.size = size) (hby : i.bytes = bytes) (hzs : z.cells.size = size) (hsz : 0 < size) (v : Value) (n : Nat) (xs : List Value) (hs : a.eval s = v) (h : Mid w base e size v n xs)
    (ad : Addr) (m c : Nat) (news : List Value) (hx : a.eval x = .slice (some ad) m c) (hl : news.length = m * size) (hnews : ∀ j u, news[j]? = some u → w.cell? (ad.add j) = some u) (h1 : ∀ u ∈ news, u.oneCell' = true)
    (h63 : n + m ≤ maxLen) (hbytes : (n + m) * bytes ≤ 140737488355328) (hbase : base ≤ w.heap.size)
    (hK : ∀ v' w', Mid w' base e size v' (n + m) (xs ++ news) → Ran v v' w w' → wpList P ops Q rest (a.put o.dst v') w') : wpList P ops Q (o :: rest) a w :=
  wpList_plain hg fun K hK' => wp_append_mid s x t ho base e i z size bytes ht hi hz hsize hby hzs hsz v n xs hs h ad m c news hx hl hnews h1 h63 hbytes hbase (fun v' w' q1 q2 => hK' _ _ (hK v' w' q1 q2))
end
def lenV : Value → Nat
  | .slice _ n _ => n
  | _ => 0
/-- The term of a number's lowest byte. -/
def tstr (n : Int) : ByteArray := strOfNums (tl 4 (n % 256).toNat)
set_option maxRecDepth 100000 in
theorem conv_mid {w : World} {base n c : Nat} {A : Option Addr} {xs : List Int} (h : Mid w base 5 1 (.slice A n c) n (xs.map (Value.int .u8))) (hn : 0 < n) : (convert 28 9 (.slice A n c)).run Tryz.prog w = .ok (.string (strOfNums xs)) w := by
  have hl : xs.length = n := by simpa using h.1
  rcases h.2 with ⟨_, h0⟩ | ⟨g, off, cap, cur, hv, _⟩
  · omega
  · injection hv with h1 h2 h3
    subst h1
    have hc := h.cells
    exact run_convert_bytes_arg (P := Tryz.prog) (w := w) 28 5 Tryz.underlying28 Tryz.underlying5 g off n c xs hl (fun i hi => by
      have h2 := hc i (.int .u8 (xs.getD i 0)) (by rw [List.getElem?_map, List.getElem?_eq_getElem (by omega), List.getD_eq_getElem?_getD, List.getElem?_eq_getElem (by omega)]; rfl)
      rw [h2, List.getD_eq_getElem?_getD]) 9 Tryz.underlying9
set_option maxRecDepth 100000 in
set_option maxHeartbeats 1600000 in
theorem term_any (n : Int) (w : World) : Calls Tryz.prog 9 #[.int .i64 n] w fun e w' => e = .returned (.string (tstr n)) ∧ Below w.heap.size w w' := by
  obtain ⟨ib, bi, bz0, bz1, bz2⟩ := info_parts infoB
  obtain ⟨k, hk⟩ : ∃ k : Nat, n % 256 = k := ⟨(n % 256).toNat, by have := Int.emod_nonneg n (show (256 : Int) ≠ 0 by decide); omega⟩
  have hk2 : k < 256 := by have := Int.emod_lt_of_pos n (show (0 : Int) < 256 by decide); omega
  have ha : bits .and .i64 n 255 = (k : Int) := by rw [and_low, hk]
  have HT : Hid (tstr n = strOfNums (tl 4 k)) := Lib.hid (by unfold tstr; rw [hk]; rfl)
  rw [HT.out]
  have HK := Lib.hid hk2
  clear hk
  go_enter Tryz.func9, Tryz.ntmps9
  go_wp2
  go_loopw [3, 4] (fun v i wr => ∃ (b : Nat) (ds : List Int) (A : Option Addr) (c : Nat), i = .int .i64 b ∧ v = .slice A ds.length c ∧ b < 256 ∧ ds.length + b ≤ 300 ∧ Hid (TI k b ds ∧ Mid wr w.heap.size 5 1 (.slice A ds.length c) ds.length (ds.map (Value.int .u8)) ∧ Below w.heap.size w wr)) (fun v i _ => 2 * (intOf i).toNat + (1 - lenV v))
  case atStart => exact ⟨k, [], none, 0, rfl, rfl, hk2, by simp; omega, Lib.hid ⟨.inl ⟨rfl, rfl⟩, Mid.nil _ _ _ _, Below.refl _ _⟩⟩
  case round =>
    obtain ⟨b, ds, A, c, rfl, rfl, hb, hd, H⟩ := hrel
    have hr0 : (0 : Int) ≤ (b : Int) % 4 := by omega
    have hr1 : (b : Int) % 4 < 4 := by omega
    have hw1 : IntKind.u8.wrap ((b : Int) % 4) = (b : Int) % 4 := by rw [IntKind.wrap_u8]; omega
    have hw2 : IntKind.u8.wrap (97 + (b : Int) % 4) = 97 + (b : Int) % 4 := by rw [IntKind.wrap_u8]; omega
    have hw3 : IntKind.i64.wrap ((b : Int) / 4) = (b : Int) / 4 := wraps_i64 _ (by omega) (by omega)
    have HMA : Hid (Mid (wr.alloc (.cells #[.int .u8 (97 + (b : Int) % 4)] 5)) w.heap.size 5 1 (.slice A ds.length c) ds.length (ds.map (Value.int .u8))) := Lib.hid (H.out.2.1.same fun g hg => heap_alloc_old _ _ (H.out.2.1.lt g hg).2)
    by_cases hgo : 0 < b ∨ ds = []
    · have HS : Hid (TI k (b / 4) (ds ++ [97 + ((b % 4 : Nat) : Int)])) := Lib.hid (H.out.1.step HK.out hgo)
      by_cases hb0 : 0 < b
      · have hb1 : (0 : Int) < b := by omega
        clear hgo
        go_wp2_with (first
          | (refine wpList_append_mid rfl (.tmp 16) (.tmp 21) 28 rfl w.heap.size 5 ib _ 1 1 Tryz.underlying28 bi bz0 bz1 bz2 rfl (by omega) (.slice A ds.length c) ds.length _ rfl HMA.out ⟨_, 0, none⟩ 1 1 [.int .u8 (97 + (b : Int) % 4)] rfl rfl (World.news_of_block (cs := #[.int .u8 (97 + (b : Int) % 4)]) (t := 5) (fr := (0, 0)) (heap_alloc_new _ _)) (by simp [Value.oneCell']) (by unfold maxLen; omega) (by omega) (by have := H.out.2.2.size; simp; omega) ?_
             intro v' w3 hmm hran
             have HB3 : Hid (Below w.heap.size w w3) := Lib.hid (H.out.2.2.grown hran.alloc.grown H.out.2.2.size (fun g hg => (H.out.2.1.lt g hg).1))
             obtain ⟨A2, c2, rfl⟩ := hmm.form
             have HM3 := Lib.hid hmm
             clear hmm hran)
          | fail)
        refine ⟨⟨b / 4, ds ++ [97 + ((b % 4 : Nat) : Int)], A2, c2, by go_num, by rw [List.length_append]; rfl, by omega, by rw [List.length_append]; simp; omega, Lib.hid ⟨HS.out, by rw [List.length_append, List.map_append, show ((b % 4 : Nat) : Int) = (b : Int) % 4 from by omega]; exact HM3.out, HB3.out⟩⟩, ?_⟩
        simp only [intOf, lenV]
        omega
      · obtain rfl : ds = [] := by rcases hgo with q | q; exact absurd q hb0; exact q
        obtain rfl : b = 0 := by omega
        simp only [List.length_nil] at HMA ⊢
        have hz0 : ((0 : Nat) : Int) = 0 := rfl
        clear hgo
        go_wp2_with (first
          | (refine wpList_append_mid rfl (.tmp 16) (.tmp 21) 28 rfl w.heap.size 5 ib _ 1 1 Tryz.underlying28 bi bz0 bz1 bz2 rfl (by omega) (.slice A 0 c) 0 _ rfl HMA.out ⟨_, 0, none⟩ 1 1 [.int .u8 (97 + ((0 : Nat) : Int) % 4)] rfl rfl (World.news_of_block (cs := #[.int .u8 (97 + ((0 : Nat) : Int) % 4)]) (t := 5) (fr := (0, 0)) (heap_alloc_new _ _)) (by simp [Value.oneCell']) (by unfold maxLen; omega) (by omega) (by have := H.out.2.2.size; simp; omega) ?_
             intro v' w3 hmm hran
             have HB3 : Hid (Below w.heap.size w w3) := Lib.hid (H.out.2.2.grown hran.alloc.grown H.out.2.2.size (fun g hg => (H.out.2.1.lt g hg).1))
             obtain ⟨A2, c2, rfl⟩ := hmm.form
             have HM3 := Lib.hid hmm
             clear hmm hran)
          | fail)
        refine ⟨⟨0 / 4, [] ++ [97 + ((0 % 4 : Nat) : Int)], A2, c2, by go_num, by rw [List.length_append]; rfl, by omega, by simp, Lib.hid ⟨HS.out, by rw [List.length_append, List.map_append, show ((0 % 4 : Nat) : Int) = ((0 : Nat) : Int) % 4 from by omega]; exact HM3.out, HB3.out⟩⟩, ?_⟩
        simp [intOf, lenV]
    · have hb0 : b = 0 := by omega
      have hd0 : ds ≠ [] := fun e => hgo (.inr e)
      subst hb0
      have hl0 : ¬ ds.length = 0 := fun e => hd0 (List.eq_nil_of_length_eq_zero e)
      have HE : Hid (ds = tl 4 k) := Lib.hid (H.out.1.fin rfl hd0)
      have hconv := conv_mid H.out.2.1 (by omega)
      clear hgo hd0
      go_wp2
      go_ret
      exact ⟨by rw [HE.out]; rfl, H.out.2.2⟩
end Go.Proofs.YtedjimkpmmacoaaGreatDoor
