/-
  What Encode wants: Size, putKids, places, a row of bytes as a string, words of a string; conditions: lengths.
-/
import Derived.Test.YtononinmjijhoaaNdg
import Derived.Test.YtononinmjijhoaaNkB
import Derived.Laws.BytesArg
namespace Go.Proofs.Ytononinmjijhoaa
open Go.RowKit Go.WideShapes Go.ChangeShapes
set_option linter.all false
def ws (s : ByteArray) : List Int := wd s (cnt s.size) s.size
theorem ws_len (s : ByteArray) : (ws s).length = cnt s.size := wd_len _ _ _
theorem words_si (s : ByteArray) (c : Nat) (hc : cnt s.size = c) (hs : s.size ≤ 1000) (w : World) : Calls Try.prog 39 #[.string s] w fun e w' => ∃ g, e = .returned (.slice (some ⟨g, 0, none⟩) c c) ∧ Reads w' w'.heap.size 1 (some ⟨g, 0, none⟩) c (u64s (ws s)) ∧ Below w.heap.size w w' :=
  (pwords_any s w hs).mono fun e w' ⟨he, ho, hb⟩ => by
    subst hc
    exact ⟨_, he, (own_wb ho).whole (ws_len s), hb⟩
theorem reads_cells {w : World} {B n : Nat} {A : Option Addr} {xs : List Value} (h : Reads w B 1 A n xs) (hn : 0 < n) : ∃ ad, A = some ad ∧ ∀ j v, xs[j]? = some v → w.cell? (ad.add j) = some v := by
  obtain ⟨ad, e, _, hc⟩ := h.2 hn
  exact ⟨ad, e, hc⟩
theorem splice_u64 (L xs : List Int) (o : Nat) : splice (u64s L) o (u64s xs) = u64s (splice L o xs) := by
  unfold splice u64s
  simp [List.map_take, List.map_drop]
theorem splice_len {L xs : List Int} {o : Nat} (h : o + xs.length ≤ L.length) : (splice L o xs).length = L.length := by
  unfold splice
  simp
  omega
def sizeN (k : Int) : Nat := if k = 1 then 12 else if k = 2 then 24 else if k = 3 then 88 else 264
set_option maxRecDepth 100000 in
theorem size_any (k : Int) (h1 : 1 ≤ k) (h4 : k ≤ 4) (w : World) : Calls Try.prog 38 #[.int .i64 k] w fun e w' => e = .returned (.int .i64 (sizeN k)) ∧ w' = w := by
  rcases (show k = 1 ∨ k = 2 ∨ k = 3 ∨ k = 4 by omega) with rfl | rfl | rfl | rfl
  all_goals
    go_enter Try.func38, Try.ntmps38
    go_wp2
    go_ret
    exact ⟨rfl, rfl⟩
/-- Words laid one behind the other from o on. -/
def pk (L : List Int) (o : Nat) (ys : List Int) : Nat → List Int
  | 0 => L
  | j + 1 => (pk L o ys j).set (o + j) (ys.getD j 0)
theorem pk_len (L : List Int) (o : Nat) (ys : List Int) : ∀ j, (pk L o ys j).length = L.length
  | 0 => rfl
  | j + 1 => by rw [pk, List.length_set, pk_len L o ys j]
set_option maxRecDepth 100000 in
set_option maxHeartbeats 1600000 in
theorem putKids_any (g o n cap : Nat) (A' : Option Addr) (c' m : Nat) (L ys : List Int) (B : Nat) (w : World) (hW : WB w g L) (hB : B ≤ g) (hr : Reads w B 1 A' m (ys.map (Value.int .i64))) (hy : ∀ i, i < m → 0 ≤ ys.getD i 0 ∧ ys.getD i 0 < 9223372036854775808) (hm : m ≤ n) (hn : o + n ≤ L.length) (hL : L.length ≤ 1000) :
    Calls Try.prog 40 #[.slice (some ⟨g, o, none⟩) n cap, .slice A' m c'] w fun e w' => e = .returned (.tuple #[]) ∧ WB w' g (pk L o ys m) ∧ Below B w w' := by
  have HR := Lib.hid hr
  have HY := Lib.hid hy
  have HI : Hid (WB w g (pk L o ys 0) ∧ Below B w w) := Lib.hid ⟨hW, Below.refl _ _⟩
  clear hr hy hW
  go_enter Try.func40, Try.ntmps40
  go_wp2
  go_loopw [4, 5, 8] (fun _ _ i wr => ∃ j : Nat, i = .int .i64 j ∧ j ≤ m ∧ Hid (WB wr g (pk L o ys j) ∧ Below B w wr)) (fun _ _ i _ => m - (intOf i).toNat)
  case atStart => exact ⟨0, rfl, Nat.zero_le _, HI⟩
  case round =>
    obtain ⟨j, rfl, hj, H⟩ := hrel
    by_cases hlt : j < m
    · obtain ⟨ad, rfl, hab, g0⟩ := kget HR.out hlt
      have g1 : wr.cell? (ad.add j) = some (.int .i64 (ys.getD j 0)) := (H.out.2.cell (by rw [block_of_add]; exact hab)).trans g0
      have hy := HY.out j hlt
      have HN : Hid (WB (wr.setCell ⟨g, o + j, none⟩ (.int .u64 (ys.getD j 0))) g (pk L o ys (j + 1)) ∧ Below B w (wr.setCell ⟨g, o + j, none⟩ (.int .u64 (ys.getD j 0)))) := Lib.hid ⟨H.out.1.set_ (o + j) _, H.out.2.setCell (by show B ≤ g; exact hB) _⟩
      have z0 : wr.cell? ⟨g, o + j, none⟩ = some (.int .u64 ((pk L o ys j).getD (o + j) 0)) := H.out.1.cell _ (by rw [pk_len]; omega)
      have z1 : wr.frozen? ⟨g, o + j, none⟩ = false := Blk.frozen H.out.1 _
      generalize ys.getD j 0 = y at *
      have hw1 : IntKind.u64.wrap y = y := by rw [IntKind.wrap_u64]; omega
      have hj1 : (j : Int) < m := by omega
      have hj2 : (j : Int) < n := by omega
      clear g0 hy
      go_wp2
      go_roundw
      case rel => exact ⟨j + 1, by go_num, by omega, HN⟩
      case measure => simp only [intOf]; omega
    · obtain rfl : j = m := by omega
      have hj3 : ¬ (j : Int) < j := by omega
      go_wp2
      go_end0
      exact ⟨rfl, H.out⟩
/-- The table of places behind j bytes. -/
def plc (xs : List Int) : Nat → List Int
  | 0 => List.replicate 256 0
  | j + 1 => (plc xs j).set (xs.getD j 0).toNat ((j : Int) + 1)
theorem plc_len (xs : List Int) : ∀ j, (plc xs j).length = 256
  | 0 => List.length_replicate
  | j + 1 => by rw [plc, List.length_set, plc_len xs j]
def BB (w : World) (g : Nat) (xs : List Int) : Prop := w.heap[g]? = some (.cells (xs.map (Value.int .u8)).toArray 82 (0, 0))
theorem zero82 : Try.zeroCells82 = ((List.replicate 256 (0 : Int)).map (Value.int .u8)).toArray := by kernel_rfl
theorem BB.cell {w : World} {g : Nat} {xs : List Int} (h : BB w g xs) (j : Nat) (hj : j < xs.length) : w.cell? ⟨g, j, none⟩ = some (.int .u8 (xs.getD j 0)) := by
  rw [cell_of h, List.getElem?_toArray, List.getElem?_map, List.getElem?_eq_getElem hj, List.getD_eq_getElem?_getD, List.getElem?_eq_getElem hj]; rfl
theorem BB.set_ {w : World} {g : Nat} {xs : List Int} (h : BB w g xs) (j : Nat) (u : Int) : BB (w.setCell ⟨g, j, none⟩ (.int .u8 u)) g (xs.set j u) := by
  have := heap_setCell_same _ _ j _ _ (.int .u8 u) h
  unfold BB
  rw [List.map_set]
  simpa using this
set_option maxRecDepth 100000 in
set_option maxHeartbeats 1600000 in
theorem places_any (A : Option Addr) (n c : Nat) (xs : List Int) (w : World) (hx : Reads w w.heap.size 1 A n (xs.map (Value.int .u8))) (hb : Byt xs) (hn : n ≤ 48) :
    Calls Try.prog 41 #[.slice A n c] w fun e w' => e = .returned (.string (strOfNums (plc xs n))) ∧ Below w.heap.size w w' := by
  have HX := Lib.hid hx
  have HBY := Lib.hid hb
  have LX : Hid (xs.length = n) := Lib.hid (klen hx)
  have HI : Hid (BB (w.alloc (.cells Try.zeroCells82 82)) w.heap.size (plc xs 0) ∧ Below w.heap.size w (w.alloc (.cells Try.zeroCells82 82))) := Lib.hid ⟨by unfold BB; rw [heap_alloc_new, zero82]; rfl, (Below.refl _ _).alloc (Nat.le_refl _) _⟩
  clear hx hb
  go_enter Try.func41, Try.ntmps41
  go_wp2
  go_loopw [4, 5, 8] (fun _ _ i wr => ∃ j : Nat, i = .int .i64 j ∧ j ≤ n ∧ Hid (BB wr w.heap.size (plc xs j) ∧ Below w.heap.size w wr)) (fun _ _ i _ => n - (intOf i).toNat)
  case atStart => exact ⟨0, rfl, Nat.zero_le _, HI⟩
  case round =>
    obtain ⟨j, rfl, hj, H⟩ := hrel
    by_cases hlt : j < n
    · obtain ⟨ad, rfl, hab, g0⟩ := kget HX.out hlt
      have g1 : wr.cell? (ad.add j) = some (.int .u8 (xs.getD j 0)) := (H.out.2.cell (by rw [block_of_add]; exact hab)).trans g0
      have hbx := HBY.out (xs.getD j 0) (by
        have : j < xs.length := by rw [LX.out]; exact hlt
        rw [List.getD_eq_getElem?_getD, List.getElem?_eq_getElem this]; exact List.getElem_mem this)
      have HN : Hid (BB (wr.setCell ⟨w.heap.size, (xs.getD j 0).toNat, none⟩ (.int .u8 ((j : Int) + 1))) w.heap.size (plc xs (j + 1)) ∧ Below w.heap.size w (wr.setCell ⟨w.heap.size, (xs.getD j 0).toNat, none⟩ (.int .u8 ((j : Int) + 1)))) := Lib.hid ⟨H.out.1.set_ _ _, H.out.2.setCell (by show w.heap.size ≤ w.heap.size; exact Nat.le_refl _) _⟩
      have z0 := H.out.1.cell (xs.getD j 0).toNat (by rw [plc_len]; omega)
      generalize xs.getD j 0 = x0 at *
      obtain ⟨x, rfl⟩ := Int.eq_ofNat_of_zero_le hbx.1
      have ex : (x : Int).toNat = x := by omega
      rw [ex] at HN z0
      have z1 : wr.frozen? ⟨w.heap.size, x, none⟩ = false := frozen_of H.out.1 _
      generalize (plc xs j).getD x 0 = yy at z0
      have hx1 : (x : Int) < 256 := by omega
      have hj1 : (j : Int) < n := by omega
      have hj2 : (j : Int) + 1 < 256 := by omega
      clear g0 hbx ex
      go_wp2
      go_roundw
      case rel => exact ⟨j + 1, by go_num, by omega, HN⟩
      case measure => simp only [intOf]; omega
    · obtain rfl : j = n := by omega
      have hj3 : ¬ (j : Int) < j := by omega
      have hconv : (convert 23 9 (.slice (some ⟨w.heap.size, 0, none⟩) 256 256)).run Try.prog wr = .ok (.string (strOfNums (plc xs j))) wr :=
        run_convert_bytes_arg (P := Try.prog) (w := wr) 23 5 Try.underlying23 Try.underlying5 w.heap.size 0 256 256 (plc xs j) (plc_len _ _) (fun i hi => by rw [Nat.zero_add]; exact H.out.1.cell i (by rw [plc_len]; exact hi)) 9 Try.underlying9
      go_wp2
      go_ret
      exact ⟨rfl, H.out.2⟩
/-- A row of bytes as a string. -/
theorem conv_row {w : World} {B n c : Nat} {A : Option Addr} {xs : List Int} (hx : Reads w B 1 A n (xs.map (Value.int .u8))) : (convert 23 9 (.slice A n c)).run Try.prog w = .ok (.string (strOfNums xs)) w := by
  have hl : xs.length = n := klen hx
  rw [run_convert_bytes_string w 23 9 5 A n c Try.underlying23 Try.underlying5 Try.underlying9]
  cases A with
  | none =>
    have h0 : n = 0 := by
      rcases Nat.eq_zero_or_pos n with h | h
      · exact h
      · obtain ⟨ad, e, _⟩ := hx.2 h; cases e
    subst h0
    obtain rfl : xs = [] := List.eq_nil_of_length_eq_zero hl
    rfl
  | some ad =>
    have hlo : (loadCells ad n).run Try.prog w = .ok (xs.map (Value.int .u8)).toArray w := by
      have := run_loadCells_list (P := Try.prog) (w := w) ad (xs.map (Value.int .u8)) (fun j v hj => by
        have hjl : j < n := by
          rcases Nat.lt_or_ge j n with h | h
          · exact h
          · rw [List.getElem?_eq_none (by simp; omega)] at hj; cases hj
        obtain ⟨ad', e, _, hc⟩ := hx.2 (by omega)
        injection e with e
        subst e
        exact hc j v hj)
      simpa [hl] using this
    rw [run_bytesToString w ad n c xs hlo, foldl_push_bytes]
    simp [strOfNums, ByteArray.empty, ByteArray.emptyWithCapacity]
    try rfl
end Go.Proofs.Ytononinmjijhoaa
