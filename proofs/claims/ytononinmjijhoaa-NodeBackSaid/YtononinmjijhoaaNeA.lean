/-
  What Decode wants, one text: children, marked, places, bytes and keys read back, the second word, the words part by part, the prefix; conditions: lengths.
-/
import Derived.Test.YtononinmjijhoaaNdn
import Derived.Test.YtononinmjijhoaaNkJ
import Derived.Lib.ConvBytes
import Derived.Deep.RegionHeld3
namespace Go.Proofs.Ytononinmjijhoaa
open Go.RowKit Go.WideShapes Go.ChangeShapes
set_option linter.all false
/-! node.getKids: words as children, in a row of its own; conditions: lengths. -/
def IB (w : World) (g : Nat) (xs : List Int) : Prop := w.heap[g]? = some (.cells (xs.map (Value.int .i64)).toArray 3 (0, 0))
theorem own_ib {w : World} {B g n : Nat} {xs : List Int} (h : w.ownsRow B 3 1 (.slice (some ⟨g, 0, none⟩) n n) n (xs.map (Value.int .i64))) : IB w g xs := by
  rcases h.2 with ⟨h', _⟩ | ⟨g', cap', cur, h', hb, hg, hnc, hcm, hcs, htake⟩
  · cases h'
  · simp only [Value.slice.injEq, Option.some.injEq, Addr.mk.injEq, and_true, true_and] at h'
    obtain ⟨rfl, rfl⟩ := h'
    have : cur = (xs.map (Value.int .i64)).toArray := by
      apply Array.ext'
      rw [← htake, List.take_of_length_le (by simp [hcs])]
    unfold IB
    rw [hg, this]
theorem IB.cell {w : World} {g : Nat} {xs : List Int} (h : IB w g xs) (j : Nat) (hj : j < xs.length) : w.cell? ⟨g, j, none⟩ = some (.int .i64 (xs.getD j 0)) := by
  rw [cell_of h, List.getElem?_toArray, List.getElem?_map, List.getElem?_eq_getElem hj, List.getD_eq_getElem?_getD, List.getElem?_eq_getElem hj]; rfl
theorem IB.set_ {w : World} {g : Nat} {xs : List Int} (h : IB w g xs) (j : Nat) (u : Int) : IB (w.setCell ⟨g, j, none⟩ (.int .i64 u)) g (xs.set j u) := by
  have := heap_setCell_same _ _ j _ _ (.int .i64 u) h
  unfold IB
  rw [List.map_set]
  simpa using this
theorem IB.mid {w : World} {B g n : Nat} {xs : List Int} (h : IB w g xs) (hl : xs.length = n) (hB : B ≤ g) (hn : n ≤ maxLen) : Mid w B 3 1 (.slice (some ⟨g, 0, none⟩) n n) n (xs.map (Value.int .i64)) := by
  refine ⟨by simp [hl], .inr ⟨g, 0, n, _, rfl, hB, h, Nat.le_refl _, hn, by simp [hl], ?_⟩⟩
  rw [List.drop_zero]
  exact List.take_of_length_le (by simp [hl])
/-- The row behind j words. -/
def ik (us : List Int) (m : Nat) : Nat → List Int
  | 0 => List.replicate m 0
  | j + 1 => (ik us m j).set j (us.getD j 0)
theorem ik_len (us : List Int) (m : Nat) : ∀ j, (ik us m j).length = m
  | 0 => List.length_replicate
  | j + 1 => by rw [ik, List.length_set, ik_len us m j]
theorem ik_get (us : List Int) (m : Nat) : ∀ j, j ≤ m → ∀ i, i < m → (ik us m j).getD i 0 = if i < j then us.getD i 0 else 0
  | 0, _, i, hi => by simp [ik, List.getD_eq_getElem?_getD, hi]
  | j + 1, hj, i, hi => by
    have ih := ik_get us m j (by omega) i hi
    rw [ik, List.getD_eq_getElem?_getD, List.getElem?_set]
    by_cases e : j = i
    · subst e
      rw [if_pos rfl, if_pos (by rw [ik_len]; omega), if_pos (by omega)]; rfl
    · rw [if_neg e, ← List.getD_eq_getElem?_getD, ih]
      by_cases h : i < j
      · rw [if_pos h, if_pos (by omega)]
      · rw [if_neg h, if_neg (by omega)]
theorem ik_all (us : List Int) (m : Nat) (h : m ≤ us.length) : ik us m m = us.take m := by
  refine List.ext_getElem? fun i => ?_
  by_cases hi : i < m
  · have h1 := ik_get us m m (Nat.le_refl _) i hi
    rw [if_pos hi] at h1
    rw [List.getElem?_take, if_pos hi]
    have h2 : i < (ik us m m).length := by rw [ik_len]; exact hi
    rw [List.getD_eq_getElem?_getD, List.getD_eq_getElem?_getD, List.getElem?_eq_getElem h2, List.getElem?_eq_getElem (show i < us.length by omega)] at h1
    rw [List.getElem?_eq_getElem h2, List.getElem?_eq_getElem (show i < us.length by omega)]
    exact congrArg some h1
  · rw [List.getElem?_eq_none (by rw [ik_len]; omega), List.getElem?_eq_none (by rw [List.length_take]; omega)]
theorem zeros_i64 (n : Nat) : (madeCells (Value.int .i64 0).cells (n * 1)).toList = (List.replicate n (0 : Int)).map (Value.int .i64) := by
  unfold madeCells
  apply List.ext_getElem <;> simp [Value.cells, Nat.mod_one]
set_option maxRecDepth 100000 in
set_option maxHeartbeats 1600000 in
theorem getKids_any (A : Option Addr) (n c m : Nat) (us : List Int) (w : World) (hx : Reads w w.heap.size 1 A n (u64s us)) (hm : m ≤ n) (h9 : m ≤ 1000) (hr : ∀ i, i < m → 0 ≤ us.getD i 0 ∧ us.getD i 0 < 9223372036854775808) :
    Calls Try.prog 57 #[.slice A n c, .int .i64 m] w fun e w' => ∃ g, e = .returned (.slice (some ⟨g, 0, none⟩) m m) ∧ Mid w' w.heap.size 3 1 (.slice (some ⟨g, 0, none⟩) m m) m ((us.take m).map (Value.int .i64)) ∧ Below w.heap.size w w' := by
  obtain ⟨ii, ji, jz0, jz1, jz2⟩ := info_parts infoI
  have HX := Lib.hid hx
  have HR := Lib.hid hr
  have LU : Hid (us.length = n) := Lib.hid hx.u64
  clear hx hr
  go_enter Try.func57, Try.ntmps57
  go_wp2_with (first
    | (refine wpList_make_full _ rfl (.tmp 7) (.tmp 7) 26 rfl w.heap.size 3 ii (.int .i64 0) 1 Try.underlying26 ji jz0 jz1 .i64 .i64 _ _ m rfl rfl rfl rfl (by rw [jz2]; omega) (by unfold maxLen; omega) (Nat.le_refl _) ?_
       intro w1 hown hg1
       rw [zeros_i64] at hown
       have HI : Hid (IB w1 w.heap.size (ik us m 0) ∧ Below w.heap.size w w1) := Lib.hid ⟨own_ib hown, (Below.refl _ _).grown hg1 (Nat.le_refl _) (by simp)⟩
       clear hown hg1)
    | fail)
  go_loopw [6, 11] (fun _ i wr => ∃ j : Nat, i = .int .i64 j ∧ j ≤ m ∧ Hid (IB wr w.heap.size (ik us m j) ∧ Below w.heap.size w wr)) (fun _ i _ => m - (intOf i).toNat)
  case atStart => exact ⟨0, rfl, Nat.zero_le _, HI⟩
  case round =>
    obtain ⟨j, rfl, hj, H⟩ := hrel
    by_cases hlt : j < m
    · obtain ⟨ad, e, hb, hc⟩ := HX.out.2 (by omega)
      subst e
      have g1 : wr.cell? (ad.add j) = some (.int .u64 (us.getD j 0)) := (H.out.2.cell (by rw [block_of_add]; exact hb)).trans (hc j _ (u64s_get us j (by rw [LU.out]; omega)))
      have hy := HR.out j hlt
      have HN : Hid (IB (wr.setCell ⟨w.heap.size, j, none⟩ (.int .i64 (us.getD j 0))) w.heap.size (ik us m (j + 1)) ∧ Below w.heap.size w (wr.setCell ⟨w.heap.size, j, none⟩ (.int .i64 (us.getD j 0)))) := Lib.hid ⟨H.out.1.set_ j _, H.out.2.setCell (by show w.heap.size ≤ w.heap.size; exact Nat.le_refl _) _⟩
      have z0 := H.out.1.cell j (by rw [ik_len]; omega)
      have z1 : wr.frozen? ⟨w.heap.size, j, none⟩ = false := frozen_of H.out.1 _
      generalize us.getD j 0 = y at *
      generalize (ik us m j).getD j 0 = yy at z0
      have hw1 : IntKind.i64.wrap y = y := wraps_i64 _ hy.1 (by omega)
      have hj1 : (j : Int) < m := by omega
      have hj2 : (j : Int) < n := by omega
      clear hb hc hy
      go_wp2
      go_roundw
      case rel => exact ⟨j + 1, by go_num, by omega, HN⟩
      case measure => simp only [intOf]; omega
    · obtain rfl : j = m := by omega
      have hj3 : ¬ (j : Int) < j := by omega
      go_wp2
      go_ret
      refine ⟨w.heap.size, rfl, ?_, H.out.2⟩
      rw [← List.map_take, ← ik_all us j (by rw [LU.out]; exact hm)]
      exact H.out.1.mid (ik_len _ _ _) (Nat.le_refl _) (by unfold maxLen; omega)
/-! node.marked: the places of a table that aren't nought; condition: a length. -/
/-- The marked ones among the first j places. -/
def mkd (tb : List Int) : Nat → List Int
  | 0 => []
  | j + 1 => if tb.getD j 0 = 0 then mkd tb j else mkd tb j ++ [(j : Int)]
theorem mkd_len (tb : List Int) : ∀ j, (mkd tb j).length ≤ j
  | 0 => Nat.le_refl _
  | j + 1 => by
    have := mkd_len tb j
    unfold mkd
    split
    · omega
    · simp; omega
set_option maxRecDepth 100000 in
set_option maxHeartbeats 1600000 in
theorem marked_any (A : Option Addr) (n c : Nat) (tb : List Int) (w : World) (hx : Reads w w.heap.size 1 A n (tb.map (Value.int .u8))) (hn : n ≤ 256) :
    Calls Try.prog 58 #[.slice A n c] w fun e w' => ∃ v, e = .returned v ∧ Mid w' w.heap.size 5 1 v (mkd tb n).length ((mkd tb n).map (Value.int .u8)) ∧ Below w.heap.size w w' := by
  obtain ⟨ib, bi, bz0, bz1, bz2⟩ := info_parts infoB
  have HX := Lib.hid hx
  clear hx
  go_enter Try.func58, Try.ntmps58
  go_wp2
  go_loopw [3, 4, 5, 8] (fun v _ _ i wr => ∃ (j k c' : Nat) (A' : Option Addr), i = .int .i64 j ∧ v = .slice A' k c' ∧ j ≤ n ∧ k ≤ j ∧ Hid (k = (mkd tb j).length ∧ Mid wr w.heap.size 5 1 (.slice A' k c') k ((mkd tb j).map (Value.int .u8)) ∧ Below w.heap.size w wr)) (fun _ _ _ i _ => n - (intOf i).toNat)
  case atStart => exact ⟨0, 0, 0, none, rfl, rfl, Nat.zero_le _, Nat.le_refl _, Lib.hid ⟨rfl, Mid.nil _ _ _ _, Below.refl _ _⟩⟩
  case round =>
    obtain ⟨j, k, c', A', rfl, rfl, hj, hk, H⟩ := hrel
    by_cases hlt : j < n
    · obtain ⟨ad, e, hab, g0⟩ := kget HX.out hlt
      subst e
      have g1 : wr.cell? (ad.add j) = some (.int .u8 (tb.getD j 0)) := (H.out.2.2.cell (by rw [block_of_add]; exact hab)).trans g0
      obtain ⟨x, hx⟩ : ∃ x, x = tb.getD j 0 := ⟨_, rfl⟩
      rw [← hx] at g1
      have HXX := Lib.hid hx
      clear hx g0 hab
      have hj1 : (j : Int) < n := by omega
      have hj2 : (j : Int) < 256 := by omega
      by_cases hz : x = 0
      · have hz1 : (x != 0) = false := by simp [hz]
        have HN : Hid (mkd tb (j + 1) = mkd tb j) := Lib.hid (by rw [mkd, if_pos (by rw [← HXX.out]; exact hz)])
        clear hz
        go_wp2
        go_roundw
        case rel => exact ⟨j + 1, k, c', A', by go_num, rfl, by omega, by omega, Lib.hid (by rw [HN.out]; exact H.out)⟩
        case measure => simp only [intOf]; omega
      · have hz1 : (x != 0) = true := by simp [hz]
        have HN : Hid (mkd tb (j + 1) = mkd tb j ++ [(j : Int)]) := Lib.hid (by rw [mkd, if_neg (by rw [← HXX.out]; exact hz)])
        clear hz
        have HMA : Hid (Mid (wr.alloc (.cells #[.int .u8 j] 5)) w.heap.size 5 1 (.slice A' k c') k ((mkd tb j).map (Value.int .u8))) := Lib.hid (H.out.2.1.same fun g hg => heap_alloc_old _ _ (H.out.2.1.lt g hg).2)
        go_wp2_with (first
          | (refine wpList_append_mid rfl (.tmp 15) (.tmp 18) 23 rfl w.heap.size 5 ib _ 1 1 Try.underlying23 bi bz0 bz1 bz2 rfl (by omega) (.slice A' k c') k _ rfl HMA.out ⟨_, 0, none⟩ 1 1 [.int .u8 j] rfl rfl (World.news_of_block (cs := #[.int .u8 j]) (t := 5) (fr := (0, 0)) (heap_alloc_new _ _)) (by simp [Value.oneCell']) (by unfold maxLen; omega) (by omega) (by have := H.out.2.2.size; simp; omega) ?_
             intro v' w3 hmm hran
             have HB3 : Hid (Below w.heap.size w w3) := Lib.hid (H.out.2.2.grown hran.alloc.grown H.out.2.2.size (fun g hg => (H.out.2.1.lt g hg).1))
             obtain ⟨A2, c2, rfl⟩ := hmm.form
             have HM3 := Lib.hid hmm
             clear hmm hran)
          | fail)
        go_roundw
        case rel => exact ⟨j + 1, k + 1, c2, A2, by go_num, rfl, by omega, by omega, Lib.hid ⟨by rw [HN.out, List.length_append, ← H.out.1]; rfl, by rw [HN.out, List.map_append]; exact HM3.out, HB3.out⟩⟩
        case measure => simp only [intOf]; omega
    · obtain rfl : j = n := by omega
      have hj3 : ¬ (j : Int) < j := by omega
      go_wp2
      go_ret
      exact ⟨_, rfl, by rw [← H.out.1]; exact H.out.2.1, H.out.2.2⟩
/-! A rising list comes back from its table of places; no condition. -/
theorem mkd_mem (tb : List Int) (z : Int) : ∀ j, z ∈ mkd tb j ↔ ∃ i : Nat, i < j ∧ z = (i : Int) ∧ tb.getD i 0 ≠ 0
  | 0 => by simp [mkd]
  | j + 1 => by
    have ih := mkd_mem tb z j
    unfold mkd
    split
    · rename_i h
      rw [ih]
      constructor
      · rintro ⟨i, h1, h2, h3⟩; exact ⟨i, by omega, h2, h3⟩
      · rintro ⟨i, h1, h2, h3⟩
        refine ⟨i, ?_, h2, h3⟩
        rcases Nat.lt_or_ge i j with q | q
        · exact q
        · obtain rfl : i = j := by omega
          exact absurd h h3
    · rename_i h
      rw [List.mem_append, ih, List.mem_singleton]
      constructor
      · rintro (⟨i, h1, h2, h3⟩ | e)
        · exact ⟨i, by omega, h2, h3⟩
        · exact ⟨j, by omega, e, h⟩
      · rintro ⟨i, h1, h2, h3⟩
        rcases Nat.lt_or_ge i j with q | q
        · exact .inl ⟨i, q, h2, h3⟩
        · obtain rfl : i = j := by omega
          exact .inr h2
theorem mkd_pw (tb : List Int) : ∀ j, Pw (mkd tb j)
  | 0 => by simp [mkd, Pw]
  | j + 1 => by
    unfold mkd
    split
    · exact mkd_pw tb j
    · refine pw_snoc (mkd_pw tb j) fun z hz => ?_
      obtain ⟨i, h1, h2, _⟩ := (mkd_mem tb z j).1 hz
      omega
theorem plc_get (xs : List Int) (hb : Byt xs) (i : Nat) (hi : i < 256) : ∀ j, j ≤ xs.length → ((plc xs j).getD i 0 ≠ 0 ↔ (i : Int) ∈ xs.take j)
  | 0, _ => by
    rw [plc, List.getD_eq_getElem?_getD, List.getElem?_replicate, if_pos hi]
    constructor
    · intro h; exact absurd rfl h
    · intro h; cases h
  | j + 1, hj => by
    have ih := plc_get xs hb i hi j (by omega)
    have hjl : j < xs.length := by omega
    have hx : xs.getD j 0 = xs[j] := by rw [List.getD_eq_getElem?_getD, List.getElem?_eq_getElem hjl]; rfl
    have hbx := hb xs[j] (List.getElem_mem hjl)
    have ht : xs.take (j + 1) = xs.take j ++ [xs[j]] := List.take_succ_eq_append_getElem hjl
    rw [plc, List.getD_eq_getElem?_getD, List.getElem?_set, hx, ht, List.mem_append, List.mem_singleton]
    by_cases e : xs[j].toNat = i
    · rw [if_pos e, if_pos (by rw [plc_len, e]; exact hi)]
      constructor
      · intro _; exact .inr (by omega)
      · intro _; show ((j : Int) + 1) ≠ 0; omega
    · rw [if_neg e, ← List.getD_eq_getElem?_getD, ih]
      constructor
      · exact .inl
      · rintro (h | h)
        · exact h
        · exact absurd (by omega) e
theorem marked_places {xs : List Int} (hb : Byt xs) (hp : Pw xs) : mkd (plc xs xs.length) 256 = xs := by
  refine pw_eq _ _ (mkd_pw _ _) hp fun z => ?_
  rw [mkd_mem]
  constructor
  · rintro ⟨i, h1, h2, h3⟩
    have := (plc_get xs hb i h1 xs.length (Nat.le_refl _)).1 h3
    rw [List.take_length] at this
    rw [h2]; exact this
  · intro hz
    have h := hb z hz
    refine ⟨z.toNat, by omega, by omega, (plc_get xs hb z.toNat (by omega) xs.length (Nat.le_refl _)).2 ?_⟩
    rw [List.take_length]
    have : ((z.toNat : Nat) : Int) = z := by omega
    rw [this]; exact hz
/-! pack.Bytes at the words of a string: the string; condition: a length. -/
theorem wd_restc (s : ByteArray) (c : Nat) (hc : s.size ≤ 8 * c) : restB (wd s c s.size) s.size = true :=
  restB_true fun i h1 h2 => by
    rw [wd_len] at h2
    rw [wd_byte s c hc i h2, dif_neg (by omega)]
theorem bytes_back (A : Option Addr) (n c : Nat) (s : ByteArray) (w : World) (hs : s.size ≤ 8 * n) (hx : Reads w w.heap.size 1 A n (u64s (wd s n s.size))) (hn : n ≤ 1000) :
    Calls Try.prog 55 #[.slice A n c, .int .i64 s.size] w fun e w' => e = .returned (.tuple #[.string s, .int .i64 0]) ∧ Below w.heap.size w w' := by
  refine (pbytes_any A n c s.size (wd s n s.size) w hx hn hs).mono ?_
  rintro e w' ⟨he, hb⟩
  refine ⟨?_, hb⟩
  rw [he, zf_rest _ _ (wd_64 s n hs) (by rw [wd_len]; exact hs), wd_restc s n hs]
  unfold bytesV
  rw [if_pos rfl, wd_str s n hs s.size (Nat.le_refl _)]
  rw [show s.extract 0 s.size = s from by simp]
/-! node.getKeys at the words of bytes: the bytes; condition: a length. -/
theorem below_bytes (w : World) (e : TypeId) (s : ByteArray) : Below w.heap.size w (Go.Lib.bytesWorld w e s) :=
  ⟨rfl, rfl, rfl, by rw [Go.Lib.bytesWorld_size]; omega, fun b hb => Go.Lib.bytesWorld_at_old w e s b hb⟩
theorem nums_back {xs : List Int} (hb : Byt xs) (i : Nat) (hi : i < xs.length) : (((strOfNums xs).data.toList.getD i 0).toNat : Int) = xs.getD i 0 := by
  rw [strOfNums_data, List.getD_eq_getElem?_getD, List.getElem?_map, List.getElem?_eq_getElem hi, List.getD_eq_getElem?_getD, List.getElem?_eq_getElem hi]
  have := hb xs[i] (List.getElem_mem hi)
  show ((UInt8.ofNat xs[i].toNat).toNat : Int) = xs[i]
  rw [UInt8.toNat_ofNat']
  omega
set_option maxRecDepth 100000 in
set_option maxHeartbeats 1600000 in
theorem getKeys_any (A : Option Addr) (n c : Nat) (xs : List Int) (w : World) (hb : Byt xs) (hs : xs.length ≤ 8 * n) (hx : Reads w w.heap.size 1 A n (u64s (wd (strOfNums xs) n xs.length))) (hn : n ≤ 1000) :
    Calls Try.prog 56 #[.slice A n c, .int .i64 xs.length] w fun e w' => ∃ g cap, e = .returned (.slice (some ⟨g, 0, none⟩) xs.length cap) ∧ w.heap.size ≤ g ∧ Reads w' w'.heap.size 1 (some ⟨g, 0, none⟩) xs.length (xs.map (Value.int .u8)) ∧ Below w.heap.size w w' := by
  have hz : (strOfNums xs).size = xs.length := strOfNums_size xs
  have hx' : Reads w w.heap.size 1 A n (u64s (wd (strOfNums xs) n (strOfNums xs).size)) := by rw [hz]; exact hx
  have HB := bytes_back A n c (strOfNums xs) w (by rw [hz]; exact hs) hx' hn
  rw [hz] at HB
  have HBB := Lib.hid HB
  have HBY := Lib.hid hb
  have HZ := Lib.hid hz
  clear hx hx' HB hb hz
  generalize hS : strOfNums xs = s at *
  have HS := Lib.hid hS
  clear hS
  go_enter Try.func56, Try.ntmps56
  go_upto_region 2 with (first
    | (go_at_call 55; refine HBB.out.mono ?_
       rintro e w1 ⟨rfl, hb1⟩
       have HB1 := Lib.hid hb1
       clear hb1)
    | fail)
  have hconv : (convert 9 23 (.string s)).run Try.prog w1 = .ok (.slice (some ⟨w1.heap.size, 0, none⟩) s.size (grownCap w1 s.size 0 5)) (Go.Lib.bytesWorld w1 5 s) := Go.Lib.run_convert_string_bytes (P := Try.prog) w1 9 23 5 s Try.underlying9 Try.underlying23 Try.underlying5
  go_wp2
  go_ret
  have hz2 := HZ.out
  refine ⟨w1.heap.size, grownCap w1 s.size 0 5, by rw [hz2]; rfl, HB1.out.size, ⟨by simp, fun h0 => ⟨_, rfl, by show w1.heap.size < _; rw [Go.Lib.bytesWorld_size]; omega, fun j u hu => ?_⟩⟩, HB1.out.trans ((below_bytes w1 5 s).mono HB1.out.size)⟩
  have hj : j < xs.length := by
    rcases Nat.lt_or_ge j xs.length with q | q
    · exact q
    · rw [List.getElem?_eq_none (by simpa using q)] at hu; cases hu
  have ea : (⟨w1.heap.size, 0, none⟩ : Addr).add j = ⟨w1.heap.size, j, none⟩ := by unfold Addr.add; split <;> simp_all
  rw [ea, Go.Lib.bytesWorld_cell w1 5 s j (by rw [hz2]; exact hj), ← hu, List.getElem?_map, List.getElem?_eq_getElem hj, ← HS.out, nums_back HBY.out j hj, List.getD_eq_getElem?_getD, List.getElem?_eq_getElem hj]
  rfl
/-! The second word of a node, plainly reckoned: its kind, its prefix's length, its children's number; conditions: their bounds. -/
theorem or_comm_u64 (x y : Int) : bits .or .u64 x y = bits .or .u64 y x := by simp only [bits, BitVec.or_comm]
theorem wraps_u63 (n : Int) (h0 : 0 ≤ n) (h1 : n < 2 ^ 63) : IntKind.u64.wrap n = n := by rw [IntKind.wrap_u64]; omega
theorem hdW_val (kd : Int) (p n : Nat) (h0 : 0 ≤ kd) (h1 : kd < 256) (hp : p < 256) (hn : n < 65536) : hdW kd p n = kd + 256 * (p : Int) + 65536 * (n : Int) := by
  unfold hdW
  have e1 := bits_join .u64 63 (by decide) wraps_u63 8 (256 * (p : Int)) kd (by omega) (by simp only [Int.reducePow]; omega) (by simp only [Int.reducePow]; omega) h0 (by simp only [Int.reducePow]; omega) (by omega)
  have e2 := bits_join .u64 63 (by decide) wraps_u63 16 (65536 * (n : Int)) (256 * (p : Int) + kd) (by omega) (by simp only [Int.reducePow]; omega) (by simp only [Int.reducePow]; omega) (by omega) (by simp only [Int.reducePow]; omega) (by omega)
  rw [or_comm_u64 kd, e1, or_comm_u64, e2]
  omega
theorem hd_kind (kd : Int) (p n : Nat) (h0 : 0 ≤ kd) (h1 : kd < 256) (hp : p < 256) (hn : n < 65536) : bits .and .u64 (hdW kd p n) 255 = kd := by
  rw [hdW_val kd p n h0 h1 hp hn]
  have h := bits_mask .u64 63 (by decide) wraps_u63 8 (by omega) (kd + 256 * (p : Int) + 65536 * (n : Int)) (by omega) (by omega)
  simp only [Int.reducePow, Int.reduceSub] at h
  rw [h]; omega
theorem hd_count (kd : Int) (p n : Nat) (h0 : 0 ≤ kd) (h1 : kd < 256) (hp : p < 256) (hn : n < 65536) : hdW kd p n / 65536 = (n : Int) := by
  rw [hdW_val kd p n h0 h1 hp hn]; omega
theorem hd_pref (kd : Int) (p n : Nat) (h0 : 0 ≤ kd) (h1 : kd < 256) (hp : p < 256) (hn : n < 65536) : bits .and .u64 (hdW kd p n / 256) 255 = (p : Int) := by
  rw [hdW_val kd p n h0 h1 hp hn]
  have e : (kd + 256 * (p : Int) + 65536 * (n : Int)) / 256 = (p : Int) + 256 * (n : Int) := by omega
  rw [e]
  have h := bits_mask .u64 63 (by decide) wraps_u63 8 (by omega) ((p : Int) + 256 * (n : Int)) (by omega) (by omega)
  simp only [Int.reducePow, Int.reduceSub] at h
  rw [h]; omega
/-! The words of a node, part by part; conditions: lengths. -/
theorem getD_set (L : List Int) (k i : Nat) (v : Int) (h : k < L.length) : (L.set k v).getD i 0 = if k = i then v else L.getD i 0 := by
  rw [List.getD_eq_getElem?_getD, List.getElem?_set]
  by_cases e : k = i
  · rw [if_pos e, if_pos e, if_pos h]; rfl
  · rw [if_neg e, if_neg e, ← List.getD_eq_getElem?_getD]
theorem splice_get (L xs : List Int) (o i : Nat) (h : o + xs.length ≤ L.length) : (splice L o xs).getD i 0 = if o ≤ i ∧ i < o + xs.length then xs.getD (i - o) 0 else L.getD i 0 := by
  unfold splice
  have ht : (L.take o).length = o := by rw [List.length_take]; omega
  rw [List.getD_eq_getElem?_getD, List.getElem?_append, ht]
  by_cases h1 : i < o
  · rw [if_pos h1, if_neg (by omega), List.getElem?_take, if_pos h1, ← List.getD_eq_getElem?_getD]
  · rw [if_neg h1, List.getElem?_append]
    by_cases h2 : i - o < xs.length
    · rw [if_pos h2, if_pos (by omega), ← List.getD_eq_getElem?_getD]
    · rw [if_neg h2, if_neg (by omega), List.getElem?_drop, ← List.getD_eq_getElem?_getD]
      congr 1; omega
theorem pk_get (L ys : List Int) (o i : Nat) : ∀ m, o + m ≤ L.length → (pk L o ys m).getD i 0 = if o ≤ i ∧ i < o + m then ys.getD (i - o) 0 else L.getD i 0
  | 0, _ => by rw [pk, if_neg (by omega)]
  | m + 1, h => by
    rw [pk, getD_set _ _ _ _ (by rw [pk_len]; omega), pk_get L ys o i m (by omega)]
    by_cases e : o + m = i
    · rw [if_pos e, if_pos (by omega)]
      congr 1; omega
    · rw [if_neg e]
      by_cases h2 : o ≤ i ∧ i < o + m
      · rw [if_pos h2, if_pos (by omega)]
      · rw [if_neg h2, if_neg (by omega)]
theorem wd_get (s : ByteArray) (c j : Nat) (hc : s.size ≤ 8 * c) (hj : j < c) : (wd s c s.size).getD j 0 = (val s j s.size : Nat) := by
  rw [List.getD_eq_getElem?_getD, wd_val s c s.size (Nat.le_refl _) hc j hj]; rfl
theorem ws_get (s : ByteArray) (j : Nat) : (ws s).getD j 0 = (val s j s.size : Nat) := by
  by_cases h : j < cnt s.size
  · rw [List.getD_eq_getElem?_getD, ws_at s j h]; rfl
  · have h1 := val_lt s j s.size
    have h2 : min 8 (s.size - 8 * j) = 0 := by unfold cnt at h; omega
    rw [h2] at h1
    have h3 : val s j s.size = 0 := by simpa using h1
    rw [h3, List.getD_eq_getElem?_getD, List.getElem?_eq_none (by rw [ws_len]; omega)]; rfl
theorem cut_eq (E L : List Int) (o k : Nat) (hE : o + k ≤ E.length) (hL : L.length = k) (h : ∀ i, i < k → E.getD (o + i) 0 = L.getD i 0) : (E.drop o).take k = L := by
  apply List.ext_getElem
  · simp; omega
  · intro i h1 h2
    have hi : i < k := by omega
    have := h i hi
    rw [List.getD_eq_getElem?_getD, List.getD_eq_getElem?_getD, List.getElem?_eq_getElem (by omega), List.getElem?_eq_getElem h2] at this
    rw [List.getElem_take, List.getElem_drop]
    exact this
/-- A word list's head: the first two words and the prefix. -/
structure EncH (wd0 hd : Int) (pf : ByteArray) (E : List Int) : Prop where
  e0 : E.getD 0 0 = wd0
  e1 : E.getD 1 0 = hd
  pre : (E.drop 2).take 2 = wd pf 2 pf.size
/-- The words of head, prefix, and one more string, then words laid behind. -/
def encS (N : Nat) (w0 hd : Int) (pf s : ByteArray) (o : Nat) (ys : List Int) (n : Nat) : List Int :=
  pk (splice (splice (((List.replicate N (0 : Int)).set 0 w0).set 1 hd) 2 (ws pf)) 4 (ws s)) o ys n
theorem base_get (N : Nat) (w0 hd : Int) (hN : 2 ≤ N) (i : Nat) : (((List.replicate N (0 : Int)).set 0 w0).set 1 hd).getD i 0 = if i = 1 then hd else if i = 0 then w0 else 0 := by
  rw [getD_set _ _ _ _ (by simp; omega), getD_set _ _ _ _ (by simp; omega)]
  by_cases h1 : i = 1
  · subst h1; rfl
  · rw [if_neg (by omega), if_neg h1]
    by_cases h0 : i = 0
    · subst h0; rfl
    · rw [if_neg (by omega), if_neg h0, List.getD_eq_getElem?_getD, List.getElem?_replicate]
      split <;> rfl
theorem encS_len (N : Nat) (w0 hd : Int) (pf s : ByteArray) (o : Nat) (ys : List Int) (n : Nat) (hp : pf.size ≤ 12) (hs : 4 + cnt s.size ≤ o) (ho : o + n ≤ N) : (encS N w0 hd pf s o ys n).length = N := by
  have hc : cnt pf.size ≤ 2 := by unfold cnt; omega
  unfold encS
  rw [pk_len, splice_len (by rw [splice_len (by simp [ws_len]; omega)]; simp [ws_len]; omega), splice_len (by simp [ws_len]; omega)]
  simp
theorem encS_get (N : Nat) (w0 hd : Int) (pf s : ByteArray) (o : Nat) (ys : List Int) (n i : Nat) (hp : pf.size ≤ 12) (hs : 4 + cnt s.size ≤ o) (ho : o + n ≤ N) :
    (encS N w0 hd pf s o ys n).getD i 0 = if o ≤ i ∧ i < o + n then ys.getD (i - o) 0 else if 4 ≤ i then ((val s (i - 4) s.size : Nat) : Int) else if 2 ≤ i then ((val pf (i - 2) pf.size : Nat) : Int) else if i = 1 then hd else w0 := by
  have hc : cnt pf.size ≤ 2 := by unfold cnt; omega
  unfold encS
  rw [pk_get _ _ _ _ _ (by rw [splice_len (by rw [splice_len (by simp [ws_len]; omega)]; simp [ws_len]; omega), splice_len (by simp [ws_len]; omega)]; simp; omega)]
  by_cases h1 : o ≤ i ∧ i < o + n
  · rw [if_pos h1, if_pos h1]
  · rw [if_neg h1, if_neg h1, splice_get _ _ _ _ (by rw [splice_len (by simp [ws_len]; omega)]; simp [ws_len]; omega), splice_get _ _ _ _ (by simp [ws_len]; omega), base_get N w0 hd (by omega), ws_len, ws_len]
    have z0 : ∀ (t : ByteArray) (j : Nat), cnt t.size ≤ j → val t j t.size = 0 := fun t j h => by
      have h1 := val_lt t j t.size
      have h2 : min 8 (t.size - 8 * j) = 0 := by unfold cnt at h; omega
      rw [h2] at h1
      simpa using h1
    by_cases h4 : 4 ≤ i
    · rw [if_pos h4]
      by_cases h5 : i < 4 + cnt s.size
      · rw [if_pos ⟨h4, h5⟩, ws_get]
      · rw [if_neg (by omega), if_neg (by omega), if_neg (by omega), if_neg (by omega), z0 s (i - 4) (by omega)]; rfl
    · rw [if_neg (by omega), if_neg h4]
      by_cases h2 : 2 ≤ i
      · rw [if_pos h2]
        by_cases h3 : i < 2 + cnt pf.size
        · rw [if_pos ⟨h2, h3⟩, ws_get]
        · rw [if_neg (by omega), if_neg (by omega), if_neg (by omega), z0 pf (i - 2) (by omega)]; rfl
      · rw [if_neg (by omega), if_neg h2]
        by_cases e1 : i = 1
        · rw [if_pos e1, if_pos e1]
        · rw [if_neg e1, if_neg e1, if_pos (by omega)]
theorem encS_head (N : Nat) (w0 hd : Int) (pf s : ByteArray) (o : Nat) (ys : List Int) (n : Nat) (hp : pf.size ≤ 12) (hs : 4 + cnt s.size ≤ o) (h5 : 4 ≤ o) (ho : o + n ≤ N) : EncH w0 hd pf (encS N w0 hd pf s o ys n) := by
  refine ⟨?_, ?_, cut_eq _ _ 2 2 (by rw [encS_len N w0 hd pf s o ys n hp hs ho]; omega) (wd_len _ _ _) fun i hi => ?_⟩
  · rw [encS_get N w0 hd pf s o ys n 0 hp hs ho, if_neg (by omega), if_neg (by omega), if_neg (by omega), if_neg (by omega)]
  · rw [encS_get N w0 hd pf s o ys n 1 hp hs ho, if_neg (by omega), if_neg (by omega), if_neg (by omega), if_pos rfl]
  · rw [encS_get N w0 hd pf s o ys n _ hp hs ho, if_neg (by omega), if_neg (by omega), if_pos (by omega), wd_get pf 2 i (by omega) hi]
    congr 3; omega
theorem encS_str (N : Nat) (w0 hd : Int) (pf s : ByteArray) (o : Nat) (ys : List Int) (n c : Nat) (hp : pf.size ≤ 12) (hs : s.size ≤ 8 * c) (hc : 4 + c ≤ o) (ho : o + n ≤ N) : ((encS N w0 hd pf s o ys n).drop 4).take c = wd s c s.size := by
  have h : 4 + cnt s.size ≤ o := by unfold cnt; omega
  refine cut_eq _ _ 4 c (by rw [encS_len N w0 hd pf s o ys n hp h ho]; omega) (wd_len _ _ _) fun i hi => ?_
  rw [encS_get N w0 hd pf s o ys n _ hp h ho, if_neg (by omega), if_pos (by omega), wd_get s c i hs hi]
  congr 3; omega
theorem encS_kids (N : Nat) (w0 hd : Int) (pf s : ByteArray) (o : Nat) (ys : List Int) (n i : Nat) (hp : pf.size ≤ 12) (hs : 4 + cnt s.size ≤ o) (ho : o + n ≤ N) (hi : i < n) : (encS N w0 hd pf s o ys n).getD (o + i) 0 = ys.getD i 0 := by
  rw [encS_get N w0 hd pf s o ys n _ hp hs ho, if_pos (by omega)]
  congr 1; omega
/-- The words of a node of the last kind. -/
def encZ (w0 hd : Int) (pf : ByteArray) (xs ys : List Int) (n : Nat) : List Int :=
  pz (splice (((List.replicate 264 (0 : Int)).set 0 w0).set 1 hd) 2 (ws pf)) xs ys n
theorem pz_out (L xs ys : List Int) (k : Nat) (hL : ∀ i, i < xs.length → (4 + xs.getD i 0).toNat < L.length) : ∀ j, j ≤ xs.length → (∀ i, i < j → (4 + xs.getD i 0).toNat ≠ k) → (pz L xs ys j).getD k 0 = L.getD k 0
  | 0, _, _ => rfl
  | j + 1, hj, h => by
    rw [pz, getD_set _ _ _ _ (by rw [pz_len]; exact hL j (by omega)), if_neg (h j (by omega)), pz_out L xs ys k hL j (by omega) fun i hi => h i (by omega)]
theorem pz_in (L xs ys : List Int) (hL : ∀ i, i < xs.length → (4 + xs.getD i 0).toNat < L.length) (hd : ∀ i j, i < j → j < xs.length → (4 + xs.getD j 0).toNat ≠ (4 + xs.getD i 0).toNat) : ∀ j, j ≤ xs.length → ∀ i, i < j → (pz L xs ys j).getD (4 + xs.getD i 0).toNat 0 = ys.getD i 0
  | 0, _, i, hi => by omega
  | j + 1, hj, i, hi => by
    rw [pz, getD_set _ _ _ _ (by rw [pz_len]; exact hL j (by omega))]
    by_cases e : i = j
    · subst e; rw [if_pos rfl]
    · rw [if_neg (hd i j (by omega) (by omega)), pz_in L xs ys hL hd j (by omega) i (by omega)]
theorem zbase_len (w0 hd : Int) (pf : ByteArray) (hp : pf.size ≤ 12) : (splice (((List.replicate 264 (0 : Int)).set 0 w0).set 1 hd) 2 (ws pf)).length = 264 := by
  have hc : cnt pf.size ≤ 2 := by unfold cnt; omega
  rw [splice_len (by rw [List.length_set, List.length_set, List.length_replicate, ws_len]; omega), List.length_set, List.length_set, List.length_replicate]
theorem encZ_len (w0 hd : Int) (pf : ByteArray) (xs ys : List Int) (n : Nat) (hp : pf.size ≤ 12) : (encZ w0 hd pf xs ys n).length = 264 := by
  unfold encZ; rw [pz_len, zbase_len w0 hd pf hp]
theorem byt_get {xs : List Int} (hb : Byt xs) {i : Nat} (hi : i < xs.length) : 0 ≤ xs.getD i 0 ∧ xs.getD i 0 < 256 := by
  rw [List.getD_eq_getElem?_getD, List.getElem?_eq_getElem hi]
  exact hb _ (List.getElem_mem hi)
theorem encZ_low (w0 hd : Int) (pf : ByteArray) (xs ys : List Int) (hp : pf.size ≤ 12) (hb : Byt xs) (i : Nat) (hi : i < 4) : (encZ w0 hd pf xs ys xs.length).getD i 0 = if 2 ≤ i then ((val pf (i - 2) pf.size : Nat) : Int) else if i = 1 then hd else w0 := by
  have hc : cnt pf.size ≤ 2 := by unfold cnt; omega
  unfold encZ
  rw [pz_out _ xs ys i (fun j hj => by rw [zbase_len w0 hd pf hp]; have := byt_get hb hj; omega) xs.length (Nat.le_refl _) (fun j hj => by have := byt_get hb hj; omega)]
  rw [splice_get _ _ _ _ (by rw [List.length_set, List.length_set, List.length_replicate, ws_len]; omega), base_get 264 w0 hd (by omega), ws_len]
  by_cases h2 : 2 ≤ i
  · rw [if_pos h2]
    by_cases h3 : i < 2 + cnt pf.size
    · rw [if_pos ⟨h2, h3⟩, ws_get]
    · have h1 := val_lt pf (i - 2) pf.size
      have h4 : min 8 (pf.size - 8 * (i - 2)) = 0 := by unfold cnt at h3; omega
      rw [h4] at h1
      have h5 : val pf (i - 2) pf.size = 0 := by simpa using h1
      rw [if_neg (by omega), if_neg (by omega), if_neg (by omega), h5]; rfl
  · rw [if_neg (by omega), if_neg h2]
    by_cases e1 : i = 1
    · rw [if_pos e1, if_pos e1]
    · rw [if_neg e1, if_neg e1, if_pos (by omega)]
theorem encZ_head (w0 hd : Int) (pf : ByteArray) (xs ys : List Int) (hp : pf.size ≤ 12) (hb : Byt xs) : EncH w0 hd pf (encZ w0 hd pf xs ys xs.length) := by
  refine ⟨?_, ?_, cut_eq _ _ 2 2 (by rw [encZ_len w0 hd pf xs ys _ hp]; omega) (wd_len _ _ _) fun i hi => ?_⟩
  · rw [encZ_low w0 hd pf xs ys hp hb 0 (by omega), if_neg (by omega), if_neg (by omega)]
  · rw [encZ_low w0 hd pf xs ys hp hb 1 (by omega), if_neg (by omega), if_pos rfl]
  · rw [encZ_low w0 hd pf xs ys hp hb (2 + i) (by omega), if_pos (by omega), wd_get pf 2 i (by omega) hi]
    congr 3; omega
theorem encZ_in (w0 hd : Int) (pf : ByteArray) (xs ys : List Int) (hp : pf.size ≤ 12) (hb : Byt xs) (hs : Pw xs) (i : Nat) (hi : i < xs.length) : (encZ w0 hd pf xs ys xs.length).getD (4 + (xs.getD i 0).toNat) 0 = ys.getD i 0 := by
  have h := pz_in (splice (((List.replicate 264 (0 : Int)).set 0 w0).set 1 hd) 2 (ws pf)) xs ys (fun j hj => by rw [zbase_len w0 hd pf hp]; have := byt_get hb hj; omega) (fun a b hab hbl => by
    have h1 := byt_get hb (show a < xs.length by omega)
    have h2 := byt_get hb hbl
    have h3 := List.pairwise_iff_getElem.1 hs a b (by omega) hbl hab
    rw [List.getD_eq_getElem?_getD, List.getElem?_eq_getElem (by omega)] at h1
    rw [List.getD_eq_getElem?_getD, List.getElem?_eq_getElem hbl] at h2
    rw [List.getD_eq_getElem?_getD, List.getElem?_eq_getElem hbl, List.getD_eq_getElem?_getD, List.getElem?_eq_getElem (by omega)]
    simp only [Option.getD_some] at h1 h2 ⊢
    omega) xs.length (Nat.le_refl _) i hi
  have hb1 := byt_get hb hi
  rw [show (4 + xs.getD i 0).toNat = 4 + (xs.getD i 0).toNat by omega] at h
  exact h
theorem encZ_out (w0 hd : Int) (pf : ByteArray) (xs ys : List Int) (hp : pf.size ≤ 12) (hb : Byt xs) (b : Nat) (hx : (b : Int) ∉ xs) : (encZ w0 hd pf xs ys xs.length).getD (4 + b) 0 = 0 := by
  have hc : cnt pf.size ≤ 2 := by unfold cnt; omega
  unfold encZ
  rw [pz_out _ xs ys (4 + b) (fun j hj => by rw [zbase_len w0 hd pf hp]; have := byt_get hb hj; omega) xs.length (Nat.le_refl _) (fun j hj => by
    intro he
    have h1 := byt_get hb hj
    apply hx
    have : (b : Int) = xs.getD j 0 := by omega
    rw [this, List.getD_eq_getElem?_getD, List.getElem?_eq_getElem hj]
    exact List.getElem_mem hj)]
  rw [splice_get _ _ _ _ (by rw [List.length_set, List.length_set, List.length_replicate, ws_len]; omega), base_get 264 w0 hd (by omega), ws_len, if_neg (by omega), if_neg (by omega), if_neg (by omega)]
/-- The words at the marked places. -/
def mkw (tb : List Int) : Nat → List Int
  | 0 => []
  | j + 1 => if tb.getD j 0 = 0 then mkw tb j else mkw tb j ++ [tb.getD j 0]
theorem mkw_map (tb : List Int) : ∀ j, mkw tb j = (mkd tb j).map fun z => tb.getD z.toNat 0
  | 0 => rfl
  | j + 1 => by
    unfold mkw mkd
    split
    · exact mkw_map tb j
    · rw [List.map_append, mkw_map tb j]; rfl
theorem drop_getD (E : List Int) (o b : Nat) : (E.drop o).getD b 0 = E.getD (o + b) 0 := by
  rw [List.getD_eq_getElem?_getD, List.getElem?_drop, ← List.getD_eq_getElem?_getD]
theorem encZ_keys (w0 hd : Int) (pf : ByteArray) (xs ys : List Int) (hp : pf.size ≤ 12) (hb : Byt xs) (hs : Pw xs) (hl : ys.length = xs.length) (hz : ∀ y ∈ ys, y ≠ 0) : mkd ((encZ w0 hd pf xs ys xs.length).drop 4) 256 = xs := by
  refine pw_eq _ _ (mkd_pw _ _) hs fun z => ?_
  rw [mkd_mem]
  constructor
  · rintro ⟨i, h1, h2, h3⟩
    rw [drop_getD] at h3
    subst h2
    by_cases h : (i : Int) ∈ xs
    · exact h
    · exact absurd (encZ_out w0 hd pf xs ys hp hb i h) h3
  · intro h
    have hbz := hb z h
    obtain ⟨i, hi, e⟩ := List.getElem_of_mem h
    refine ⟨z.toNat, by omega, by omega, ?_⟩
    have e2 : xs.getD i 0 = z := by rw [List.getD_eq_getElem?_getD, List.getElem?_eq_getElem hi]; exact e
    rw [drop_getD, ← e2, encZ_in w0 hd pf xs ys hp hb hs i hi, List.getD_eq_getElem?_getD, List.getElem?_eq_getElem (by omega)]
    exact hz _ (List.getElem_mem _)
theorem encZ_kids (w0 hd : Int) (pf : ByteArray) (xs ys : List Int) (hp : pf.size ≤ 12) (hb : Byt xs) (hs : Pw xs) (hl : ys.length = xs.length) (hz : ∀ y ∈ ys, y ≠ 0) : mkw ((encZ w0 hd pf xs ys xs.length).drop 4) 256 = ys := by
  rw [mkw_map, encZ_keys w0 hd pf xs ys hp hb hs hl hz]
  apply List.ext_getElem
  · simp [hl]
  · intro i h1 h2
    rw [List.getElem_map, drop_getD]
    have hi : i < xs.length := by omega
    have e2 : xs.getD i 0 = xs[i] := by rw [List.getD_eq_getElem?_getD, List.getElem?_eq_getElem hi]; rfl
    rw [← e2, encZ_in w0 hd pf xs ys hp hb hs i hi, List.getD_eq_getElem?_getD, List.getElem?_eq_getElem h2]; rfl
theorem encW_len (kd wd : Int) (pf : ByteArray) (xs ys : List Int) (h : NodeL kd wd pf xs ys xs.length) (h1 : 1 ≤ kd) (h4 : kd ≤ 4) : (encW kd wd pf xs ys xs.length).length = sizeN kd := by
  have hh := h.high
  have hp := h.pref
  rcases (show kd = 1 ∨ kd = 2 ∨ kd = 3 ∨ kd = 4 by omega) with rfl | rfl | rfl | rfl
  · have : xs.length ≤ 4 := by simp [highV] at hh; omega
    exact encS_len 12 _ _ _ _ 5 _ _ hp (by rw [strOfNums_size]; unfold cnt; omega) (by omega)
  · have : xs.length ≤ 16 := by simp [highV] at hh; omega
    exact encS_len 24 _ _ _ _ 6 _ _ hp (by rw [strOfNums_size]; unfold cnt; omega) (by omega)
  · have : xs.length ≤ 48 := by simp [highV] at hh; omega
    exact encS_len 88 _ _ _ _ 36 _ _ hp (by rw [strOfNums_size, plc_len]; unfold cnt; omega) (by omega)
  · exact encZ_len _ _ _ _ _ _ hp
theorem encW_head (kd wd : Int) (pf : ByteArray) (xs ys : List Int) (h : NodeL kd wd pf xs ys xs.length) (h1 : 1 ≤ kd) (h4 : kd ≤ 4) (hb : Byt xs) : EncH wd (hdW kd pf.size xs.length) pf (encW kd wd pf xs ys xs.length) := by
  have hh := h.high
  have hp := h.pref
  rcases (show kd = 1 ∨ kd = 2 ∨ kd = 3 ∨ kd = 4 by omega) with rfl | rfl | rfl | rfl
  · have : xs.length ≤ 4 := by simp [highV] at hh; omega
    exact encS_head 12 _ _ _ _ 5 _ _ hp (by rw [strOfNums_size]; unfold cnt; omega) (by omega) (by omega)
  · have : xs.length ≤ 16 := by simp [highV] at hh; omega
    exact encS_head 24 _ _ _ _ 6 _ _ hp (by rw [strOfNums_size]; unfold cnt; omega) (by omega) (by omega)
  · have : xs.length ≤ 48 := by simp [highV] at hh; omega
    exact encS_head 88 _ _ _ _ 36 _ _ hp (by rw [strOfNums_size, plc_len]; unfold cnt; omega) (by omega) (by omega)
  · exact encZ_head _ _ _ _ _ hp hb
/-! node.getPrefix at the words of a node: the prefix; conditions: lengths. -/
theorem add_zero (g o j : Nat) : (⟨g, o, none⟩ : Addr).add j = ⟨g, o + j, none⟩ := by
  unfold Addr.add; split <;> simp_all
/-- A cut of a row of words. -/
theorem reads_cut {w : World} {B g N : Nat} {E : List Int} (h : Reads w B 1 (some ⟨g, 0, none⟩) N (u64s E)) (o k : Nat) (ho : o + k ≤ N) : Reads w B 1 (some ⟨g, o, none⟩) k (u64s ((E.drop o).take k)) := by
  have hl := h.u64
  refine ⟨by rw [u64s_len]; simp; omega, fun hk => ?_⟩
  obtain ⟨ad, e, hb, hc⟩ := h.2 (by omega)
  injection e with e
  subst e
  refine ⟨_, rfl, hb, fun j u hu => ?_⟩
  have hj : j < k := by
    have := (List.getElem?_eq_some_iff.1 hu).1
    rw [u64s_len] at this
    simp at this; omega
  have h1 := hc (o + j) u (by
    unfold u64s at hu ⊢
    rw [List.getElem?_map] at hu ⊢
    rw [List.getElem?_take, if_pos hj, List.getElem?_drop] at hu
    exact hu)
  rw [add_zero] at h1 ⊢
  simpa using h1
theorem reads_word {w : World} {B g N : Nat} {E : List Int} (h : Reads w B 1 (some ⟨g, 0, none⟩) N (u64s E)) (j : Nat) (hj : j < N) : w.cell? ⟨g, j, none⟩ = some (.int .u64 (E.getD j 0)) ∧ g < B := by
  have hl := h.u64
  obtain ⟨ad, e, hb, hc⟩ := h.2 (by omega)
  injection e with e
  subst e
  have h1 := hc j _ (u64s_get E j (by omega))
  rw [add_zero] at h1
  exact ⟨by simpa using h1, hb⟩
set_option maxRecDepth 100000 in
set_option maxHeartbeats 1600000 in
theorem prefix_any (g N : Nat) (E : List Int) (w0 kd : Int) (pf : ByteArray) (n : Nat) (w : World) (h : Reads w w.heap.size 1 (some ⟨g, 0, none⟩) N (u64s E)) (hN : 12 ≤ N) (h9 : N ≤ 1000) (HE : EncH w0 (hdW kd pf.size n) pf E) (h0 : 0 ≤ kd) (h1 : kd < 256) (hp : pf.size ≤ 12) (hn : n < 65536) :
    Calls Try.prog 42 #[.slice (some ⟨g, 0, none⟩) N N] w fun e w' => e = .returned (.tuple #[.string pf, .bool true]) ∧ Below w.heap.size w w' := by
  have hmid := reads_cut h 2 2 (by omega)
  rw [HE.pre] at hmid
  have HMID : Hid (Reads w.drew w.heap.size 1 (some ⟨g, 2, none⟩) 2 (u64s (wd pf 2 pf.size))) := Lib.hid hmid.drew
  obtain ⟨hc, hgl⟩ := reads_word h 1 (by omega)
  rw [HE.e1] at hc
  have hpr := hd_pref kd pf.size n h0 h1 (by omega) hn
  generalize hdW kd pf.size n = hd at hc hpr
  have hcell : w.drew.cell? ⟨g, 1, none⟩ = some (.int .u64 hd) := hc
  have HP := Lib.hid hp
  have w1 : IntKind.i64.wrap (pf.size : Int) = (pf.size : Int) := IntWalk.i64_in _ (by omega)
  have n1 : (1 : Int) < N := by omega
  have n2 : (4 : Int) ≤ N := by omega
  have n3 : ¬ N = 2 := by omega
  clear HE hmid h h0 h1 hp hn hc
  go_enter Try.func42, Try.ntmps42
  go_wp2
  go_region_held3 (fun w' => w'.cell? ⟨g, 1, none⟩ = some (.int .u64 hd)) (first | (go_keep; done) | exact r1)
    (first
      | (go_at_call 55; refine (bytes_back _ 2 _ pf _ (by have := HP.out; omega) HMID.out (by omega)).mono ?_
         rintro e w2 ⟨rfl, hb2⟩
         have r1 : w2.cell? ⟨g, 1, none⟩ = some (.int .u64 hd) := (hb2.cell (World.block_lt_of_cell? _ _ hcell)).trans hcell
         have HB : Hid (Below w.heap.size w w2) := Lib.hid (after ((Below.refl w.heap.size w).drew) hb2)
         clear hb2))
  go_wp2
  go_ret2
  exact ⟨rfl, HB.out⟩
end Go.Proofs.Ytononinmjijhoaa
