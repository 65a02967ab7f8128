/-
  Alloc, Live, Room; conditions: few slots.
-/
import Derived.Test.YtndmpdpmfieacaaAr7
namespace Go.Proofs.Ytndmpdpmfieacaa
open Go.RowKit Go.WideShapes Go.ChangeShapes
set_option linter.all false
section
variable {N B S k : Nat} {sl : List Sl} {P I : Nat → Nat} {V : Nat → Value} {xs : Nat → List Int} {w w' : World}
set_option maxRecDepth 100000 in
theorem alloc_bad (a : Value) (c : Int) (A : Option Addr) (m d : Nat) (w : World) (hc : c < 0 ∨ 5 ≤ c) : Calls Try.prog 23 #[a, .int .i64 c, .slice A m d] w fun e w' => e = .returned (.tuple #[.int .i64 0, .int .i64 1]) ∧ w' = w := by
  have H := Lib.hid hc
  clear hc
  go_enter Try.func23, Try.ntmps23
  go_wp2
  all_goals first
    | (go_ret2; exact ⟨rfl, rfl⟩)
    | (exfalso; have := H.out; omega)
set_option maxRecDepth 100000 in
theorem alloc_long (a : Value) (c : Nat) (A : Option Addr) (m d : Nat) (w : World) (hc : c < 5) (hm : szN c < m) : Calls Try.prog 23 #[a, .int .i64 (c : Nat), .slice A m d] w fun e w' => e = .returned (.tuple #[.int .i64 0, .int .i64 1]) ∧ w' = w := by
  have k0 : (0 : Int) ≤ c := by omega
  have k1 : (c : Int) < 5 := by omega
  have hs := size_in c hc w
  have hm1 : (szN c : Int) < m := by omega
  generalize szN c = n at *
  go_enter Try.func23, Try.ntmps23
  go_wp2_with (first
    | (go_at_call 22; refine hs.mono ?_; rintro e w' ⟨rfl, rfl⟩)
    | fail)
  go_ret2
  exact ⟨rfl, rfl⟩
set_option maxRecDepth 100000 in
theorem alloc_full (h : Ar N B S k 5 sl P I V xs w) (c : Nat) (A : Option Addr) (m d : Nat) (hc : c < 5) (hm : m ≤ szN c) (hx : xs c = []) : Calls Try.prog 23 #[.pointer (some ⟨B, 0, none⟩), .int .i64 (c : Nat), .slice A m d] w fun e w' => e = .returned (.tuple #[.int .i64 0, .int .i64 2]) ∧ w' = w := by
  have k0 : (0 : Int) ≤ c := by omega
  have k1 : (c : Int) < 5 := by omega
  have hs := size_in c hc w
  have hm1 : ¬ ((szN c : Int) < m) := by omega
  have cb := h.boxc hc
  have hp := h.pl c hc
  rw [hx] at hp
  have ht := st_take_no hp
  clear hm hx hp h
  generalize szN c = n at *
  go_enter Try.func23, Try.ntmps23
  go_wp2_with (first
    | (go_at_call 22; refine hs.mono ?_; rintro e w' ⟨rfl, rfl⟩)
    | (go_at_call 56; refine ht.mono ?_; rintro e w' ⟨rfl, rfl⟩)
    | fail)
  go_ret2
  exact ⟨rfl, rfl⟩
theorem Reads.mv {F F' : Nat → Prop} {M m : Nat} {A : Option Addr} {ys : List Value} (hr : Reads w M 1 A m ys) (hM : M ≤ w.heap.size) (hfar : ∀ ad, A = some ad → 0 < m → ¬ F ad.block) (hv : Mv F F' w w') : Reads w' M 1 A m ys :=
  ⟨hr.1, fun hm => by
    obtain ⟨ad, e, hb, hc⟩ := hr.2 hm
    refine ⟨ad, e, hb, fun j u hu => ?_⟩
    have h1 : w'.heap[(ad.add j).block]? = w.heap[(ad.add j).block]? := by rw [block_of_add]; exact hv.block _ (by omega) (hfar ad e hm)
    exact (World.cell?_of_block h1).trans (hc j u hu)⟩
/-- What a slot is behind Alloc. -/
def made (s : Sl) (l : List Int) : Sl := { s with live := true, ws := fillL (szN s.cls) l }
set_option maxRecDepth 100000 in
set_option maxHeartbeats 1600000 in
theorem alloc_ok (h : Ar N B S k 5 sl P I V xs w) (hn : sl.length ≤ 1024) {c m d M : Nat} {A : Option Addr} {l : List Int} (hc : c < 5) (hr : Reads w M 1 A m (wv l)) (hM : M ≤ w.heap.size) (hfar : ∀ ad, A = some ad → 0 < m → ¬ Foot B S 5 sl P I V ad.block) (hm : m ≤ szN c) (hx : xs c ≠ []) (hl : (xs c).length < 900000) {i : Nat} (hi : i < sl.length) (hxi : (xs c).getD 0 0 = (i : Int)) (hic : (sl.getD i dS).cls = c) (hg : 1 ≤ (sl.getD i dS).gen ∧ (sl.getD i dS).gen ≤ 1073741824) :
    Calls Try.prog 23 #[.pointer (some ⟨B, 0, none⟩), .int .i64 (c : Nat), .slice A m d] w fun e w' => e = .returned (.tuple #[.int .i64 (refV i (sl.getD i dS).gen ((c : Int) == 0)), .int .i64 0]) ∧ ∃ v',
      Ar N B S k 5 (sl.set i (made (sl.getD i dS) l)) P I (up V c v') (up xs c (popF (xs c))) w' ∧
      Mv (Foot B S 5 sl P I V) (Foot B S 5 (sl.set i (made (sl.getD i dS) l)) P I (up V c v')) w w' := by
  have k0 : (0 : Int) ≤ c := by omega
  have k1 : (c : Int) < 5 := by omega
  have hs := size_in c hc w
  have hm1 : ¬ ((szN c : Int) < m) := by omega
  have cb := h.boxc hc
  have ht := st_take (h.pl c hc) hx hl i hxi
  have hle := szN_le c
  obtain ⟨s, hsd⟩ : ∃ s, s = sl.getD i dS := ⟨_, rfl⟩
  rw [← hsd] at hic hg ⊢
  have HA := Lib.hid h
  have HS := Lib.hid hsd
  have HIC := Lib.hid hic
  have HR := Lib.hid hr
  have HF := Lib.hid hfar
  have HMM := Lib.hid hm
  have i0 : (0 : Int) ≤ i := by omega
  have i1 : (i : Int) < sl.length := by omega
  clear h hsd hr hx hxi hl hfar hm
  generalize hnn : szN c = n at *
  have HNN := Lib.hid hnn
  clear hnn hle hic
  go_enter Try.func23, Try.ntmps23
  go_upto_region 4 with (first
    | (go_at_call 22; refine hs.mono ?_; rintro e w' ⟨rfl, rfl⟩)
    | (go_at_call 56; refine ht.mono ?_; rintro e w1 ⟨rfl, v', hst, hkp⟩
       have HA1 := Lib.hid (HA.out.pool hc hst hkp)
       have HM1 := Lib.hid (Mv.of_kept (sl := sl) (B := B) (S := S) hc hkp)
       have HK := Lib.hid hkp
       clear hst hkp)
    | fail)
  clear cb hs ht
  have b0 := cell_of HA1.out.box 0
  simp only [List.getElem?_toArray, List.getElem?_cons_zero] at b0
  have c2 := HA1.out.row.c2 i hi
  have fr := HA1.out.row.fr (i * 4 + 2)
  go_upto_region 8 with (fail)
  have HM2 : Hid (Mv (Foot B S 5 sl P I V) (Foot B S 5 sl P I (up V c v')) _ (w1.setCell ⟨S, i * 4 + 2, none⟩ (.bool true))) := Lib.hid (HM1.out.trans (Mv.of_set (.inr (.inl rfl)) (fun _ hx => hx)))
  have HA2 := Lib.hid (HA1.out.setLive hi true)
  rw [← HS.out] at HA2
  obtain ⟨w2, hw2⟩ : ∃ w2, w2 = w1.setCell ⟨S, i * 4 + 2, none⟩ (.bool true) := ⟨_, rfl⟩
  rw [← hw2] at HA2 HM2 ⊢
  clear hw2 c2 fr b0
  have hl2 : i < (sl.set i { s with live := true }).length := by rw [List.length_set]; exact hi
  have hs2 : (sl.set i { s with live := true }).getD i dS = { s with live := true } := by rw [getD_set hi, if_pos rfl]
  have hfl := HA2.out.filled hl2 (c := d) (HR.out.mv hM HF.out HM2.out) (by rw [hs2]; show m ≤ szN s.cls; rw [HIC.out, HNN.out]; exact HMM.out)
  rw [hs2, List.set_set] at hfl
  replace hfl : Calls Try.prog 53 #[.pointer (some ⟨S, i * 4, none⟩), .slice A m d] w2 fun e w' => e = .returned (.tuple #[]) ∧ Ar N B S k 5 (sl.set i (made s l)) P I (up V c v') (up xs c (popF (xs c))) w' ∧ Mv (Foot B S 5 (sl.set i { s with live := true }) P I (up V c v')) (Foot B S 5 (sl.set i { s with live := true }) P I (up V c v')) w2 w' := hfl
  have HFL := Lib.hid hfl
  clear hfl hl2 hs2
  go_upto_region 9 with (first
    | (go_at_call 53; refine HFL.out.mono ?_; rintro e w3 ⟨rfl, ha, hv⟩
       have HA3 := Lib.hid ha
       have HM3 := Lib.hid hv
       clear ha hv)
    | fail)
  have c1 := HA3.out.row.c1 i (by rw [List.length_set]; exact hi)
  rw [getD_set hi, if_pos rfl] at c1
  replace c1 : w3.cell? ⟨S, i * 4 + 1, none⟩ = some (.int .i64 (s.gen : Nat)) := c1
  go_wp2_with (first
    | (go_at_call 25; refine (ref_c _ _ _ _).mono ?_; rintro e w' ⟨rfl, rfl⟩)
    | fail)
  go_ret2
  have key : ∀ j, ((sl.set i { s with live := true }).getD j dS).blk = (sl.getD j dS).blk := fun j => by
    rw [getD_set hi]
    split
    · rename_i e; rw [e, ← HS.out]
    · rfl
  have key2 : ∀ j, ((sl.set i (made s l)).getD j dS).blk = (sl.getD j dS).blk := fun j => by
    rw [getD_set hi]
    split
    · rename_i e; rw [e, ← HS.out]; rfl
    · rfl
  refine ⟨rfl, v', HA3.out, ?_⟩
  have h3 : Mv (Foot B S 5 sl P I (up V c v')) (Foot B S 5 sl P I (up V c v')) w2 _ := ⟨HM3.out.os, HM3.out.tape, HM3.out.output, HM3.out.size, fun b hb hf => HM3.out.block b hb (fun hf2 => hf (foot_len (List.length_set ..) key hf2)), fun b hb => .inl hb⟩
  exact (HM2.out.trans h3).to fun b hb => foot_len (List.length_set ..) key2 hb
set_option maxRecDepth 100000 in
theorem room_out (a : Value) (c : Int) (w : World) (hc : c < 0 ∨ 5 ≤ c) : Calls Try.prog 15 #[a, .int .i64 c] w fun e w' => e = .returned (.int .i64 0) ∧ w' = w := by
  have H := Lib.hid hc
  clear hc
  go_enter Try.func15, Try.ntmps15
  go_wp2
  all_goals first
    | (go_ret; exact ⟨rfl, rfl⟩)
    | (exfalso; have := H.out; omega)
set_option maxRecDepth 100000 in
theorem room_in (h : Ar N B S k 5 sl P I V xs w) (c : Nat) (hc : c < 5) : Calls Try.prog 15 #[.pointer (some ⟨B, 0, none⟩), .int .i64 (c : Nat)] w fun e w' => e = .returned (.int .i64 ((xs c).length : Nat)) ∧ w' = w := by
  have k0 : (0 : Int) ≤ c := by omega
  have k1 : (c : Int) < 5 := by omega
  have cb := h.boxc hc
  have hl := st_len (h.pl c hc)
  generalize (xs c).length = n at *
  clear h
  go_enter Try.func15, Try.ntmps15
  go_wp2_with (first
    | (go_at_call 50; refine hl.mono ?_; rintro e w' ⟨rfl, rfl⟩)
    | fail)
  go_ret
  exact ⟨rfl, rfl⟩
theorem run_index5 (c : Nat) (cs : Array Value) (hc : c < 5) (v : Value) (hv : cs[c]? = some v) (w : World) : (Instr.index 108 (.agg cs) (.int .i64 (c : Nat))).run Try.prog w = .ok v w := by
  have h1 : (0 : Int) ≤ c := by omega
  have h2 : (c : Int) < 5 := by omega
  unfold Instr.index
  simp [asIntOf, run_underlying Try.underlying108, Try.sizeOf107, part, Try.isAgg107, hv, h1, h2]
  intro h; omega
/-- The sum of the pools' lengths below q. -/
def freeN (xs : Nat → List Int) : Nat → Nat
  | 0 => 0
  | c + 1 => freeN xs c + (xs c).length
set_option maxRecDepth 100000 in
set_option maxHeartbeats 1600000 in
theorem live_any (h : Ar N B S k 5 sl P I V xs w) (hn : sl.length ≤ 1024) (hx : freeN xs 5 ≤ 1000000) : Calls Try.prog 14 #[.pointer (some ⟨B, 0, none⟩)] w fun e w' => e = .returned (.int .i64 ((sl.length : Int) - (freeN xs 5 : Nat))) ∧ w' = w := by
  have b0 := cell_of h.box 0
  have b1 := cell_of h.box 1
  have b2 := cell_of h.box 2
  have b3 := cell_of h.box 3
  have b4 := cell_of h.box 4
  have b5 := cell_of h.box 5
  simp only [List.getElem?_toArray, List.getElem?_cons_zero, List.getElem?_cons_succ] at b0
  replace b1 : w.cell? ⟨B, 1, none⟩ = some (.pointer (some ⟨P 0, 0, none⟩)) := b1
  replace b2 : w.cell? ⟨B, 2, none⟩ = some (.pointer (some ⟨P 1, 0, none⟩)) := b2
  replace b3 : w.cell? ⟨B, 3, none⟩ = some (.pointer (some ⟨P 2, 0, none⟩)) := b3
  replace b4 : w.cell? ⟨B, 4, none⟩ = some (.pointer (some ⟨P 3, 0, none⟩)) := b4
  replace b5 : w.cell? ⟨B, 5, none⟩ = some (.pointer (some ⟨P 4, 0, none⟩)) := b5
  have HL : Hid (∀ c, c < 5 → Calls Try.prog 50 #[.pointer (some ⟨P c, 0, none⟩)] w fun e w' => e = .returned (.int .i64 ((xs c).length : Nat)) ∧ w' = w) := Lib.hid (fun c hc => st_len (h.pl c hc))
  have HX : Hid (∀ c, c < 5 → freeN xs c + (xs c).length ≤ 1000000) := Lib.hid (fun c hc => by
    simp only [freeN] at hx
    have : c = 0 ∨ c = 1 ∨ c = 2 ∨ c = 3 ∨ c = 4 := by omega
    rcases this with rfl | rfl | rfl | rfl | rfl <;> simp only [freeN] <;> omega)
  clear h hx
  generalize sl.length = n at *
  go_enter Try.func14, Try.ntmps14
  go_wp2
  go_loopw [3, 15] (fun x i W => ∃ c : Nat, i = .int .i64 c ∧ c ≤ 5 ∧ x = .int .i64 ((n : Int) - (freeN xs c : Nat)) ∧ W = w) (fun _ i _ => 5 - (intOf i).toNat)
  case atStart => exact ⟨0, rfl, Nat.zero_le _, by simp [freeN], rfl⟩
  case round =>
    obtain ⟨c, rfl, hc, rfl, rfl⟩ := hrel
    by_cases h5 : c < 5
    · have hb := HX.out c h5
      have hp := HL.out c h5
      have hf : freeN xs (c + 1) = freeN xs c + (xs c).length := rfl
      have HF := Lib.hid hf
      clear hf
      have : c = 0 ∨ c = 1 ∨ c = 2 ∨ c = 3 ∨ c = 4 := by omega
      have hi0 : ∀ W, (Instr.index 108 (.agg #[.pointer (some ⟨P 0, 0, none⟩), .pointer (some ⟨P 1, 0, none⟩), .pointer (some ⟨P 2, 0, none⟩), .pointer (some ⟨P 3, 0, none⟩), .pointer (some ⟨P 4, 0, none⟩)]) (.int .i64 0)).run Try.prog W = .ok (.pointer (some ⟨P 0, 0, none⟩)) W := fun W => run_index5 0 _ (by decide) _ rfl W
      have hi1 : ∀ W, (Instr.index 108 (.agg #[.pointer (some ⟨P 0, 0, none⟩), .pointer (some ⟨P 1, 0, none⟩), .pointer (some ⟨P 2, 0, none⟩), .pointer (some ⟨P 3, 0, none⟩), .pointer (some ⟨P 4, 0, none⟩)]) (.int .i64 1)).run Try.prog W = .ok (.pointer (some ⟨P 1, 0, none⟩)) W := fun W => run_index5 1 _ (by decide) _ rfl W
      have hi2 : ∀ W, (Instr.index 108 (.agg #[.pointer (some ⟨P 0, 0, none⟩), .pointer (some ⟨P 1, 0, none⟩), .pointer (some ⟨P 2, 0, none⟩), .pointer (some ⟨P 3, 0, none⟩), .pointer (some ⟨P 4, 0, none⟩)]) (.int .i64 2)).run Try.prog W = .ok (.pointer (some ⟨P 2, 0, none⟩)) W := fun W => run_index5 2 _ (by decide) _ rfl W
      have hi3 : ∀ W, (Instr.index 108 (.agg #[.pointer (some ⟨P 0, 0, none⟩), .pointer (some ⟨P 1, 0, none⟩), .pointer (some ⟨P 2, 0, none⟩), .pointer (some ⟨P 3, 0, none⟩), .pointer (some ⟨P 4, 0, none⟩)]) (.int .i64 3)).run Try.prog W = .ok (.pointer (some ⟨P 3, 0, none⟩)) W := fun W => run_index5 3 _ (by decide) _ rfl W
      have hi4 : ∀ W, (Instr.index 108 (.agg #[.pointer (some ⟨P 0, 0, none⟩), .pointer (some ⟨P 1, 0, none⟩), .pointer (some ⟨P 2, 0, none⟩), .pointer (some ⟨P 3, 0, none⟩), .pointer (some ⟨P 4, 0, none⟩)]) (.int .i64 4)).run Try.prog W = .ok (.pointer (some ⟨P 4, 0, none⟩)) W := fun W => run_index5 4 _ (by decide) _ rfl W
      rcases this with rfl | rfl | rfl | rfl | rfl
      all_goals
        generalize (xs _).length = y at *
        go_wp2_with (first
          | (go_at_call 50; refine hp.mono ?_; rintro e w' ⟨rfl, rfl⟩)
          | fail)
        go_roundw
        case rel => first
          | exact ⟨1, rfl, by omega, by rw [show freeN xs 1 = _ from HF.out]; congr 1; omega, trivial⟩
          | exact ⟨2, rfl, by omega, by rw [show freeN xs 2 = _ from HF.out]; congr 1; omega, trivial⟩
          | exact ⟨3, rfl, by omega, by rw [show freeN xs 3 = _ from HF.out]; congr 1; omega, trivial⟩
          | exact ⟨4, rfl, by omega, by rw [show freeN xs 4 = _ from HF.out]; congr 1; omega, trivial⟩
          | exact ⟨5, rfl, by omega, by rw [show freeN xs 5 = _ from HF.out]; congr 1; omega, trivial⟩
        case measure => simp only [intOf]; omega
    · obtain rfl : c = 5 := by omega
      go_wp2
      go_ret
      exact ⟨rfl, rfl⟩
end
end Go.Proofs.Ytndmpdpmfieacaa
