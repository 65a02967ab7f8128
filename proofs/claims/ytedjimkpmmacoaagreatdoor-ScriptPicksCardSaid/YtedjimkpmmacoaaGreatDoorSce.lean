/-
  The law ScriptPicks at any bytes: the walk; conditions: bytes, a length.
-/
import Derived.Test.YtedjimkpmmacoaaGreatDoorScd
import Derived.Test.YtedjimkpmmacoaaGreatDoorSR
namespace Go.Proofs.YtedjimkpmmacoaaGreatDoor
open Go.RowKit Go.WideShapes Go.ChangeShapes
set_option linter.all false
section
variable {P : Program} {w : World} {size n : Nat} {xs : List Value}
theorem wpList_append_src {ops : Array Oper} {rest : List Oper} {o : Oper} {a : Act} {Q : Exit → Act → World → Prop} (hg : o.guard = none) (s x : Operand) (t : TypeId)
    (ho : o.op = .call { callee := .builtin .append, args := #[s, x], argTypes := #[t, t] })
    (base : Nat) (e : TypeId) (i : TypeInfo) (z : Value) (size bytes : Nat) (ht : P.underlying t = some (.slice e)) (hi : P.info? e = some i) (hz : i.zero = some z)
    (hsize : i.size = size) (hby : i.bytes = bytes) (hzs : z.cells.size = size) (hsz : 0 < size) (v : Value) (n : Nat) (xs : List Value) (hs : a.eval s = v) (h : Mid w base e size v n xs)
    (B : Nat) (A : Option Addr) (m c : Nat) (news : List Value) (hx : a.eval x = .slice A m c) (hr : Reads w B size A m news) (h1 : ∀ u ∈ news, u.oneCell' = true)
    (h63 : n + m ≤ maxLen) (hbytes : (n + m) * bytes ≤ 140737488355328) (hbase : base ≤ w.heap.size)
    (hK : ∀ v' w', Mid w' base e size v' (n + m) (xs ++ news) → Ran v v' w w' → wpList P ops Q rest (a.put o.dst v') w') : wpList P ops Q (o :: rest) a w :=
  wpList_plain hg fun K hK' => by
    obtain ⟨v', w', hrun, h2, h3⟩ := run_append_src (P := P) o.type e t i z bytes ht hi hz hsize hby hzs hsz h B A m c news hr h1 h63 hbytes hbase
    unfold Oper.wp execOp
    simp only [ho, resolve, invoke, builtin, Sem.run_bind, Sem.run_pure, Result.andThen_ok, List.map_toArray, List.map_cons, List.map_nil, hs, hx, hrun]
    exact hK' _ _ (hK v' w' h2 h3)
end
theorem Mid.reads {w : World} {N n c size : Nat} {t : TypeId} {A : Option Addr} {xs : List Value} (h : Mid w N t size (.slice A n c) n xs) : Reads w w.heap.size size A n xs := by
  refine ⟨h.1, fun hn => ?_⟩
  rcases h.2 with ⟨h', h0⟩ | ⟨g, off, cap, cur, h', hb, hh, _⟩
  · omega
  · simp only [Value.slice.injEq, true_and] at h'
    obtain ⟨rfl, rfl⟩ := h'
    refine ⟨_, rfl, ?_, fun j u hu => ?_⟩
    · rcases Nat.lt_or_ge g w.heap.size with hlt | hge
      · exact hlt
      · rw [Array.getElem?_eq_none hge] at hh; cases hh
    · rw [Addr.add_lit]; exact h.cells j u hu
theorem reads_take {w : World} {B n k : Nat} {A : Option Addr} {xs : List Int} (h : Reads w B 1 A n (xs.map (Value.int .u8))) (hk : k ≤ n) : Reads w B 1 A k ((xs.take k).map (Value.int .u8)) := by
  have hl : xs.length = n := by simpa using h.1
  refine ⟨by simp; omega, fun h0 => ?_⟩
  obtain ⟨ad, e, hb, hc⟩ := h.2 (by omega)
  refine ⟨ad, e, hb, fun j u hu => hc j u ?_⟩
  rw [List.map_take, List.getElem?_take] at hu
  split at hu
  · exact hu
  · cases hu
theorem mid_two (w : World) (b c : Int) : Mid (w.alloc (.cells #[.int .u8 b, .int .u8 c] 5)) w.heap.size 5 1 (.slice (some ⟨w.heap.size, 0, none⟩) 2 2) 2 ([b, c].map (Value.int .u8)) :=
  ⟨rfl, .inr ⟨w.heap.size, 0, 2, _, rfl, Nat.le_refl _, heap_alloc_new _ _, Nat.le_refl _, by unfold maxLen; omega, by simp, rfl⟩⟩
theorem after' {a b c : World} (h : Below a.heap.size a b) (k : Below b.heap.size b c) : Below a.heap.size a c := h.trans (k.mono h.size)
theorem ob_lt {w : World} {g C : Nat} (h : OB w g C) : g < w.heap.size := by
  rcases Nat.lt_or_ge g w.heap.size with q | q
  · exact q
  · unfold OB at h; rw [Array.getElem?_eq_none q] at h; cases h
set_option maxRecDepth 100000 in
set_option maxHeartbeats 3200000 in
/-- From the cut on. -/
theorem picks_any (b0 : Nat) (A : Option Addr) (n c0 : Nat) (xs : List Int) (w : World) (hx : Reads w w.heap.size 1 A n (xs.map (Value.int .u8))) (hb : ∀ z ∈ xs, 0 ≤ z ∧ z < 256) (hb0 : b0 < 256) (hc : n ≤ c0) :
    Calls Tryz.prog 6 #[.int .u8 (b0 : Nat), .slice A n c0] w fun e w' => e = .returned (.bool true) ∧ Below w.heap.size w w' := by
  obtain ⟨ib, bi, bz0, bz1, bz2⟩ := info_parts infoB
  obtain ⟨C, hC⟩ : ∃ C : Nat, 1 + (b0 : Int) % 8 = (C : Int) := ⟨(1 + (b0 : Int) % 8).toNat, by omega⟩
  have hC8 : C ≤ 8 := by omega
  have HC := Lib.hid hC
  clear hC
  obtain ⟨m, hm⟩ : ∃ m, m = min n 200 := ⟨_, rfl⟩
  obtain ⟨ls, hls⟩ : ∃ ls, ls = xs.take m := ⟨_, rfl⟩
  have hl : Reads w w.heap.size 1 A m (ls.map (Value.int .u8)) := by rw [hls]; exact reads_take hx (by omega)
  have hlb : ∀ z ∈ ls, 0 ≤ z ∧ z < 256 := fun z hz => hb z (by rw [hls] at hz; exact List.mem_of_mem_take hz)
  have hlm : ls.length = m := by have := hl.1; simpa using this
  have HL := Lib.hid hl
  have HLB := Lib.hid hlb
  have HLM := Lib.hid hlm
  have HM2 := Lib.hid (mid_two w (b0 : Int) 255)
  have m200 : m ≤ 200 := by omega
  have HMN := Lib.hid hm
  clear hl hlb hlm hls hx hb hm
  go_enter Tryz.func6, Tryz.ntmps6
  by_cases hbig : (200 : Int) < n
  · obtain rfl : m = 200 := by have := HMN.out; omega
    go_upto_region 3 with (fail)
    have HA : Hid (Reads (w.alloc (.cells #[.int .u8 (b0 : Nat), .int .u8 255] 5)) w.heap.size 1 A 200 (ls.map (Value.int .u8))) := Lib.hid (HL.out.alloc (Nat.le_refl _) _)
    go_upto_region 4 with (first
      | (refine wpList_append_src rfl (.tmp 18) (.tmp 19) 28 rfl w.heap.size 5 ib _ 1 1 Tryz.underlying28 bi bz0 bz1 bz2 rfl (by omega) (.slice (some ⟨w.heap.size, 0, none⟩) 2 2) 2 _ rfl HM2.out w.heap.size A 200 c0 (ls.map (Value.int .u8)) rfl HA.out (by intro u hu; obtain ⟨z, _, rfl⟩ := List.mem_map.1 hu; rfl) (by unfold maxLen; omega) (by omega) (by simp) ?_
         intro v' w3 hmm hran
         have HB3 : Hid (Below w.heap.size w w3) := Lib.hid ((Below.refl w.heap.size w).grown hran.alloc.grown (Nat.le_refl _) (fun g hg => (HM2.out.lt g hg).1))
         obtain ⟨A3, c3, rfl⟩ := hmm.form
         have HR3 : Hid (Reads w3 w3.heap.size 1 A3 (2 + 200) ((((b0 : Nat) : Int) :: 255 :: ls).map (Value.int .u8))) := Lib.hid (by
           have h := hmm.reads
           exact h)
         clear hmm hran)
      | (go_at_call 15
         refine (decodeP_any A3 (2 + 200) c3 C 200 b0 ls w3 HR3.out hb0 HC.out HLB.out HLM.out (by omega)).mono ?_
         rintro e w4 ⟨g, v, rfl, hg, ho, hp, hb4⟩
         obtain ⟨A4, c4, rfl⟩ := hp.form
         have HO4 := Lib.hid ho
         have HP4 := Lib.hid hp.reads
         have HB4 : Hid (Below w.heap.size w w4) := Lib.hid (after' HB3.out hb4)
         clear ho hp hb4 hg)
      | fail)
    have HL4 : Hid (Reads w4 w4.heap.size 1 A 200 (ls.map (Value.int .u8))) := Lib.hid ((HL.out.below HB4.out).more HB4.out.size)
    go_upto_region 5 with (fail)
    rw [HC.out]
    go_wp2
    go_loopw [9, 46] (fun _ i wr => ∃ j : Nat, i = .int .i64 j ∧ j ≤ C ∧ Hid (Below w4.heap.size w4 wr)) (fun _ i _ => C - (intOf i).toNat)
    case atStart => exact ⟨0, rfl, Nat.zero_le _, Lib.hid (Below.refl _ _)⟩
    case round =>
      obtain ⟨j, rfl, hj, H⟩ := hrel
      by_cases hlt : j < C
      · have hj1 : (j : Int) < C := by omega
        have hO : wr.heap[g]? = some (.cells (List.replicate C (Value.slice none 0 0)).toArray 36 (0, 0)) := (H.out.block g (ob_lt HO4.out)).trans HO4.out
        have hcell : wr.cell? ⟨g, j, none⟩ = some (.slice none 0 0) := by
          rw [cell_of_row wr g j _ 36 (0, 0) hO]; simp [hlt]
        clear hO
        go_wp2
        go_roundw
        case rel => exact ⟨j + 1, by go_num, by omega, H⟩
        case measure => simp only [intOf]; omega
      · obtain rfl : j = C := by omega
        have hj3 : ¬ (j : Int) < j := by omega
        go_wp2
        go_loopw [10, 61] (fun _ i wr => ∃ t : Nat, i = .int .i64 t ∧ t ≤ 200 ∧ Hid (Below w4.heap.size w4 wr)) (fun _ i _ => 200 - (intOf i).toNat)
        case atStart => exact ⟨0, rfl, Nat.zero_le _, H⟩
        case round =>
          obtain ⟨t, rfl, ht, K⟩ := hrel
          by_cases hlt2 : t < 200
          · have ht1 : (t : Int) < 200 := by omega
            obtain ⟨ap, rfl, hpb, gp⟩ := kget HP4.out hlt2
            obtain ⟨al, rfl, hab, gl⟩ := kget HL4.out hlt2
            have gp1 := (K.out.cell hpb).trans gp
            have gl1 := (K.out.cell hab).trans gl
            have hz := HLB.out (ls.getD t 0) (by
              have hjl : t < ls.length := by rw [HLM.out]; exact hlt2
              rw [List.getD_eq_getElem?_getD, List.getElem?_eq_getElem hjl]; exact List.getElem_mem hjl)
            have hpz : (picksOf j ls).getD t 0 = ls.getD t 0 % ((j : Int) + 1) := by
              have hjl : t < ls.length := by rw [HLM.out]; exact hlt2
              unfold picksOf
              rw [List.getD_eq_getElem?_getD, List.getElem?_map, List.getElem?_eq_getElem hjl, List.getD_eq_getElem?_getD, List.getElem?_eq_getElem hjl]; rfl
            rw [hpz] at gp1
            clear gp gl hpb hab hpz
            generalize ls.getD t 0 = z at *
            obtain ⟨z, rfl⟩ := Int.eq_ofNat_of_zero_le hz.1
            have hd0 : ¬ ((j : Int) + 1 = 0) := by omega
            have hd1 : ((j : Int) + 1 == 0) = false := by simp; omega
            have hz2 : z < 256 := by omega
            clear hz
            go_wp2
            go_region
            all_goals
              go_wp2
              go_roundw
              case rel => exact ⟨t + 1, by go_num, by omega, Lib.hid K.out.drew⟩
              case measure => simp only [intOf]; omega
          · have ht3 : ¬ (t : Int) < 200 := by omega
            go_wp2_with (first
              | (go_at_call 3; refine (scriptRuns_any _).mono ?_; rintro e w9 ⟨rfl, hb9⟩; have HB9 := Lib.hid hb9; clear hb9)
              | fail)
            go_ret
            exact ⟨rfl, after' HB4.out (after' (K.out) (HB9.out))⟩
  · obtain rfl : n = m := by have := HMN.out; omega
    go_upto_region 3 with (fail)
    have HA : Hid (Reads (w.alloc (.cells #[.int .u8 (b0 : Nat), .int .u8 255] 5)) w.heap.size 1 A n (ls.map (Value.int .u8))) := Lib.hid (HL.out.alloc (Nat.le_refl _) _)
    go_upto_region 4 with (first
      | (refine wpList_append_src rfl (.tmp 18) (.tmp 19) 28 rfl w.heap.size 5 ib _ 1 1 Tryz.underlying28 bi bz0 bz1 bz2 rfl (by omega) (.slice (some ⟨w.heap.size, 0, none⟩) 2 2) 2 _ rfl HM2.out w.heap.size A n c0 (ls.map (Value.int .u8)) rfl HA.out (by intro u hu; obtain ⟨z, _, rfl⟩ := List.mem_map.1 hu; rfl) (by unfold maxLen; omega) (by omega) (by simp) ?_
         intro v' w3 hmm hran
         have HB3 : Hid (Below w.heap.size w w3) := Lib.hid ((Below.refl w.heap.size w).grown hran.alloc.grown (Nat.le_refl _) (fun g hg => (HM2.out.lt g hg).1))
         obtain ⟨A3, c3, rfl⟩ := hmm.form
         have HR3 : Hid (Reads w3 w3.heap.size 1 A3 (2 + n) ((((b0 : Nat) : Int) :: 255 :: ls).map (Value.int .u8))) := Lib.hid (by
           have h := hmm.reads
           exact h)
         clear hmm hran)
      | (go_at_call 15
         refine (decodeP_any A3 (2 + n) c3 C n b0 ls w3 HR3.out hb0 HC.out HLB.out HLM.out (by omega)).mono ?_
         rintro e w4 ⟨g, v, rfl, hg, ho, hp, hb4⟩
         obtain ⟨A4, c4, rfl⟩ := hp.form
         have HO4 := Lib.hid ho
         have HP4 := Lib.hid hp.reads
         have HB4 : Hid (Below w.heap.size w w4) := Lib.hid (after' HB3.out hb4)
         clear ho hp hb4 hg)
      | fail)
    have HL4 : Hid (Reads w4 w4.heap.size 1 A n (ls.map (Value.int .u8))) := Lib.hid ((HL.out.below HB4.out).more HB4.out.size)
    go_upto_region 5 with (fail)
    rw [HC.out]
    by_cases hM : (1 : Int) ≤ (n : Int)
    · skip
      go_wp2
      go_loopw [9, 46] (fun _ i wr => ∃ j : Nat, i = .int .i64 j ∧ j ≤ C ∧ Hid (Below w4.heap.size w4 wr)) (fun _ i _ => C - (intOf i).toNat)
      case atStart => exact ⟨0, rfl, Nat.zero_le _, Lib.hid (Below.refl _ _)⟩
      case round =>
        obtain ⟨j, rfl, hj, H⟩ := hrel
        by_cases hlt : j < C
        · have hj1 : (j : Int) < C := by omega
          have hO : wr.heap[g]? = some (.cells (List.replicate C (Value.slice none 0 0)).toArray 36 (0, 0)) := (H.out.block g (ob_lt HO4.out)).trans HO4.out
          have hcell : wr.cell? ⟨g, j, none⟩ = some (.slice none 0 0) := by
            rw [cell_of_row wr g j _ 36 (0, 0) hO]; simp [hlt]
          clear hO
          go_wp2
          go_roundw
          case rel => exact ⟨j + 1, by go_num, by omega, H⟩
          case measure => simp only [intOf]; omega
        · obtain rfl : j = C := by omega
          have hj3 : ¬ (j : Int) < j := by omega
          go_wp2
          go_loopw [10, 61] (fun _ i wr => ∃ t : Nat, i = .int .i64 t ∧ t ≤ n ∧ Hid (Below w4.heap.size w4 wr)) (fun _ i _ => n - (intOf i).toNat)
          case atStart => exact ⟨0, rfl, Nat.zero_le _, H⟩
          case round =>
            obtain ⟨t, rfl, ht, K⟩ := hrel
            by_cases hlt2 : t < n
            · have ht1 : (t : Int) < n := by omega
              obtain ⟨ap, rfl, hpb, gp⟩ := kget HP4.out hlt2
              obtain ⟨al, rfl, hab, gl⟩ := kget HL4.out hlt2
              have gp1 := (K.out.cell hpb).trans gp
              have gl1 := (K.out.cell hab).trans gl
              have hz := HLB.out (ls.getD t 0) (by
                have hjl : t < ls.length := by rw [HLM.out]; exact hlt2
                rw [List.getD_eq_getElem?_getD, List.getElem?_eq_getElem hjl]; exact List.getElem_mem hjl)
              have hpz : (picksOf j ls).getD t 0 = ls.getD t 0 % ((j : Int) + 1) := by
                have hjl : t < ls.length := by rw [HLM.out]; exact hlt2
                unfold picksOf
                rw [List.getD_eq_getElem?_getD, List.getElem?_map, List.getElem?_eq_getElem hjl, List.getD_eq_getElem?_getD, List.getElem?_eq_getElem hjl]; rfl
              rw [hpz] at gp1
              clear gp gl hpb hab hpz
              generalize ls.getD t 0 = z at *
              obtain ⟨z, rfl⟩ := Int.eq_ofNat_of_zero_le hz.1
              have hd0 : ¬ ((j : Int) + 1 = 0) := by omega
              have hd1 : ((j : Int) + 1 == 0) = false := by simp; omega
              have hz2 : z < 256 := by omega
              clear hz
              go_wp2
              go_region
              all_goals
                go_wp2
                go_roundw
                case rel => exact ⟨t + 1, by go_num, by omega, Lib.hid K.out.drew⟩
                case measure => simp only [intOf]; omega
            · have ht3 : ¬ (t : Int) < n := by omega
              go_wp2_with (first
                | (go_at_call 3; refine (scriptRuns_any _).mono ?_; rintro e w9 ⟨rfl, hb9⟩; have HB9 := Lib.hid hb9; clear hb9)
                | fail)
              go_ret
              exact ⟨rfl, after' HB4.out (after' (K.out) (HB9.out))⟩
    · skip
      go_wp2
      go_loopw [9, 46] (fun _ i wr => ∃ j : Nat, i = .int .i64 j ∧ j ≤ C ∧ Hid (Below w4.heap.size w4 wr)) (fun _ i _ => C - (intOf i).toNat)
      case atStart => exact ⟨0, rfl, Nat.zero_le _, Lib.hid (Below.refl _ _)⟩
      case round =>
        obtain ⟨j, rfl, hj, H⟩ := hrel
        by_cases hlt : j < C
        · have hj1 : (j : Int) < C := by omega
          have hO : wr.heap[g]? = some (.cells (List.replicate C (Value.slice none 0 0)).toArray 36 (0, 0)) := (H.out.block g (ob_lt HO4.out)).trans HO4.out
          have hcell : wr.cell? ⟨g, j, none⟩ = some (.slice none 0 0) := by
            rw [cell_of_row wr g j _ 36 (0, 0) hO]; simp [hlt]
          clear hO
          go_wp2
          go_roundw
          case rel => exact ⟨j + 1, by go_num, by omega, H⟩
          case measure => simp only [intOf]; omega
        · obtain rfl : j = C := by omega
          have hj3 : ¬ (j : Int) < j := by omega
          go_wp2
          go_loopw [10, 61] (fun _ i wr => ∃ t : Nat, i = .int .i64 t ∧ t ≤ n ∧ Hid (Below w4.heap.size w4 wr)) (fun _ i _ => n - (intOf i).toNat)
          case atStart => exact ⟨0, rfl, Nat.zero_le _, H⟩
          case round =>
            obtain ⟨t, rfl, ht, K⟩ := hrel
            by_cases hlt2 : t < n
            · have ht1 : (t : Int) < n := by omega
              obtain ⟨ap, rfl, hpb, gp⟩ := kget HP4.out hlt2
              obtain ⟨al, rfl, hab, gl⟩ := kget HL4.out hlt2
              have gp1 := (K.out.cell hpb).trans gp
              have gl1 := (K.out.cell hab).trans gl
              have hz := HLB.out (ls.getD t 0) (by
                have hjl : t < ls.length := by rw [HLM.out]; exact hlt2
                rw [List.getD_eq_getElem?_getD, List.getElem?_eq_getElem hjl]; exact List.getElem_mem hjl)
              have hpz : (picksOf j ls).getD t 0 = ls.getD t 0 % ((j : Int) + 1) := by
                have hjl : t < ls.length := by rw [HLM.out]; exact hlt2
                unfold picksOf
                rw [List.getD_eq_getElem?_getD, List.getElem?_map, List.getElem?_eq_getElem hjl, List.getD_eq_getElem?_getD, List.getElem?_eq_getElem hjl]; rfl
              rw [hpz] at gp1
              clear gp gl hpb hab hpz
              generalize ls.getD t 0 = z at *
              obtain ⟨z, rfl⟩ := Int.eq_ofNat_of_zero_le hz.1
              have hd0 : ¬ ((j : Int) + 1 = 0) := by omega
              have hd1 : ((j : Int) + 1 == 0) = false := by simp; omega
              have hz2 : z < 256 := by omega
              clear hz
              go_wp2
              go_region
              all_goals
                go_wp2
                go_roundw
                case rel => exact ⟨t + 1, by go_num, by omega, Lib.hid K.out.drew⟩
                case measure => simp only [intOf]; omega
            · have ht3 : ¬ (t : Int) < n := by omega
              go_wp2_with (first
                | (go_at_call 3; refine (scriptRuns_any _).mono ?_; rintro e w9 ⟨rfl, hb9⟩; have HB9 := Lib.hid hb9; clear hb9)
                | fail)
              go_ret
              exact ⟨rfl, after' HB4.out (after' (K.out) (HB9.out))⟩
end Go.Proofs.YtedjimkpmmacoaaGreatDoor
