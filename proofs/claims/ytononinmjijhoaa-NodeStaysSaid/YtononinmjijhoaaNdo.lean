/-
  The law NodeStays at any numbers: the walk; conditions: the arguments are what their types allow.
-/
import Derived.Test.YtononinmjijhoaaNdg
import Derived.Test.YtononinmjijhoaaNdf
import Derived.Test.YtononinmjijhoaaNdi
import Derived.Test.YtononinmjijhoaaNdl
import Derived.Test.YtononinmjijhoaaNdn
import Derived.Test.YtononinmjijhoaaNd6
import Derived.Test.YtononinmjijhoaaNd7
namespace Go.Proofs.Ytononinmjijhoaa
open Go.RowKit Go.WideShapes Go.ChangeShapes
set_option linter.all false
/-- A node comes back, right or nought, with rows of the call's own. -/
def NodeOut (w : World) (e : Ending) (w' : World) : Prop :=
  ∃ (kd' wd' : Int) (pf' : ByteArray) (G : Option Addr) (g : Nat) (G' : Option Addr) (g' m : Nat) (zs ks : List Int) (bv : Bool), e = .returned (.tuple #[nodeV kd' wd' pf' G g G' g' m, .bool bv]) ∧ Mid w' w.heap.size 5 1 (.slice G m g) m (zs.map (Value.int .u8)) ∧ Mid w' w.heap.size 3 1 (.slice G' m g') m (ks.map (Value.int .i64)) ∧ Below w.heap.size w w'
theorem without_some (kd wd : Int) (pf : ByteArray) (A : Option Addr) (c : Nat) (A' : Option Addr) (c' n : Nat) (xs ys : List Int) (b : Int) (w : World) (h : NodeL kd wd pf xs ys n) (hn : n ≤ 256)
    (hx : Reads w w.heap.size 1 A n (xs.map (Value.int .u8))) (hy : Reads w w.heap.size 1 A' n (ys.map (Value.int .i64))) :
    Calls Try.prog 20 #[nodeV kd wd pf A c A' c' n, .int .u8 b] w (NodeOut w) := by
  cases hi : isN b xs
  · refine (without_no kd wd pf A c A' c' n xs ys b w h hn hi hx hy).mono ?_
    rintro e w' ⟨rfl, hb⟩
    exact ⟨0, 0, ⟨#[]⟩, none, 0, none, 0, 0, [], [], false, rfl, Mid.nil _ _ _ _, Mid.nil _ _ _ _, hb⟩
  · refine (without_yes kd wd pf A c A' c' n xs ys b w h hn hi hx hy).mono ?_
    rintro e w' ⟨v, rfl, G, g, G', g', rfl, m1, m2, hb⟩
    exact ⟨kd, wd, pf, G, g, G', g', n - 1, _, _, true, rfl, m1, m2, hb⟩
theorem turn_some (kd wd : Int) (pf : ByteArray) (A : Option Addr) (c : Nat) (A' : Option Addr) (c' n : Nat) (xs ys : List Int) (tk : Int) (w : World) (h : NodeL kd wd pf xs ys n) (hn : n ≤ 256) (h1 : 1 ≤ tk) (h4 : tk ≤ 4)
    (hx : Reads w w.heap.size 1 A n (xs.map (Value.int .u8))) (hy : Reads w w.heap.size 1 A' n (ys.map (Value.int .i64))) :
    Calls Try.prog 11 #[nodeV kd wd pf A c A' c' n, .int .i64 tk] w (NodeOut w) := by
  by_cases hf : (n : Int) ≤ highV tk
  · have hp : 0 < highV tk := by rcases (show tk = 1 ∨ tk = 2 ∨ tk = 3 ∨ tk = 4 by omega) with rfl | rfl | rfl | rfl <;> decide
    refine (turn_yes kd wd pf A c A' c' n xs ys tk w h hn hf hp hx hy).mono ?_
    rintro e w' ⟨v, rfl, G, g, G', g', rfl, m1, m2, hb⟩
    exact ⟨tk, 0, pf, G, g, G', g', n, _, _, true, rfl, m1, m2, hb⟩
  · refine (turn_no kd wd pf A c A' c' n xs ys tk w h hn (by omega) hx hy).mono ?_
    rintro e w' ⟨rfl, hb⟩
    exact ⟨0, 0, ⟨#[]⟩, none, 0, none, 0, 0, [], [], false, rfl, Mid.nil _ _ _ _, Mid.nil _ _ _ _, hb⟩
/-- A row: its type, its value, its length. -/
abbrev Rw := TypeId × Value × Nat
/-- Between the stores: below B all stands, the table of nodes stands, the rows are rows. -/
structure Six (B gT : Nat) (tc : Array Value) (tt : TypeId) (R : List Rw) (w0 w : World) : Prop where
  bel : Below B w0 w
  tab : w.heap[gT]? = some (.cells tc tt (0, 0))
  rows : ∀ r ∈ R, ∃ xs, Mid w B r.1 1 r.2.1 r.2.2 xs
theorem Six.alloc {B gT : Nat} {tc : Array Value} {tt : TypeId} {R : List Rw} {w0 w : World} (h : Six B gT tc tt R w0 w) (hB : B ≤ w.heap.size) (o : Obj) : Six B gT tc tt R w0 (w.alloc o) :=
  ⟨h.bel.alloc hB o, (heap_alloc_old _ _ (lt_of_heap h.tab)).trans h.tab, fun r hr => by
    obtain ⟨xs, hm⟩ := h.rows r hr
    exact ⟨xs, hm.same fun g hg => heap_alloc_old _ _ (hm.lt g hg).2⟩⟩
/-- Rows in blocks of their own, all ahead of the table's. -/
def Apart6 (gT : Nat) (R : List Rw) : Prop := ∀ r ∈ R, ∀ g, r.2.1.ownBlock = some g → g < gT ∧ ∀ r' ∈ R, r'.2.1.ownBlock = some g → r' = r
theorem Six.put {B gT g off n c i : Nat} {tc : Array Value} {tt t : TypeId} {R : List Rw} {w0 w : World} (h : Six B gT tc tt R w0 w) (ha : Apart6 gT R) (hr : (t, Value.slice (some ⟨g, off, none⟩) n c, n) ∈ R) (hi : i < n) (u : Value) :
    Six B gT tc tt R w0 (w.setCell ⟨g, off + i, none⟩ u) := by
  obtain ⟨xs, hm⟩ := h.rows _ hr
  have hg := ha _ hr g rfl
  refine ⟨h.bel.setCell (p := ⟨g, off + i, none⟩) (hm.lt g rfl).1 _, heap_far (by show gT ≠ g; omega) h.tab, fun r' hr' => ?_⟩
  by_cases e : r' = (t, Value.slice (some ⟨g, off, none⟩) n c, n)
  · subst e; exact ⟨_, hm.set hi⟩
  · obtain ⟨ys, hk⟩ := h.rows r' hr'
    exact ⟨ys, hk.same fun g' hg' => heap_far (a := ⟨g, off + i, none⟩) (fun e' => e (hg.2 r' hr' (by rw [hg']; exact congrArg some e'))) rfl⟩
theorem Mid.some_of {w : World} {B n c : Nat} {t : TypeId} {G : Option Addr} {xs : List Value} (h : Mid w B t 1 (.slice G n c) n xs) (hn : 0 < n) : ∃ gg og, G = some ⟨gg, og, none⟩ := by
  rcases h.2 with ⟨e, e0⟩ | ⟨gk, ok, _, _, e, _⟩
  · omega
  · injection e with e _ _; exact ⟨gk, ok, e⟩
theorem Mid.rebase {w : World} {B B' n : Nat} {t : TypeId} {v : Value} {xs : List Value} (h : Mid w B t 1 v n xs) (hb : ∀ g, v.ownBlock = some g → B' ≤ g) : Mid w B' t 1 v n xs := by
  refine ⟨h.1, ?_⟩
  rcases h.2 with q | ⟨g, off, cap, cur, h1, h2, h3⟩
  · exact .inl q
  · exact .inr ⟨g, off, cap, cur, h1, hb g (by rw [h1]; rfl), h3⟩
theorem apart6_of {P1 P2 gT : Nat} {a1 a2 b1 b2 c1 c2 : Value} {m1 m2 m3 : Nat} (hA : ∀ g, a1.ownBlock = some g → g < P1) (hA' : ∀ g, a2.ownBlock = some g → g < P1) (hB : ∀ g, b1.ownBlock = some g → P1 ≤ g ∧ g < P2) (hB' : ∀ g, b2.ownBlock = some g → P1 ≤ g ∧ g < P2) (hC : ∀ g, c1.ownBlock = some g → P2 ≤ g ∧ g < gT) (hC' : ∀ g, c2.ownBlock = some g → P2 ≤ g ∧ g < gT) (h12 : P1 ≤ P2) (h2T : P2 ≤ gT)
    (na : ∀ g, a1.ownBlock = some g → ¬ a2.ownBlock = some g) (nb : ∀ g, b1.ownBlock = some g → ¬ b2.ownBlock = some g) (nc : ∀ g, c1.ownBlock = some g → ¬ c2.ownBlock = some g) : Apart6 gT [(5, a1, m1), (3, a2, m1), (5, b1, m2), (3, b2, m2), (5, c1, m3), (3, c2, m3)] := by
  have cls : ∀ r ∈ ([(5, a1, m1), (3, a2, m1), (5, b1, m2), (3, b2, m2), (5, c1, m3), (3, c2, m3)] : List Rw), r = (5, a1, m1) ∨ r = (3, a2, m1) ∨ r = (5, b1, m2) ∨ r = (3, b2, m2) ∨ r = (5, c1, m3) ∨ r = (3, c2, m3) := fun r hr => by simpa using hr
  intro r hr g hg
  constructor
  · rcases cls r hr with rfl | rfl | rfl | rfl | rfl | rfl
    · have := hA g hg; omega
    · have := hA' g hg; omega
    · have := hB g hg; omega
    · have := hB' g hg; omega
    · have := hC g hg; omega
    · have := hC' g hg; omega
  · intro r' hr' hg'
    rcases cls r hr with rfl | rfl | rfl | rfl | rfl | rfl <;> rcases cls r' hr' with rfl | rfl | rfl | rfl | rfl | rfl
    · rfl
    · exact absurd hg' (na g hg)
    · exfalso; have h1 := hA g hg; have h2 := hB g hg'; omega
    · exfalso; have h1 := hA g hg; have h2 := hB' g hg'; omega
    · exfalso; have h1 := hA g hg; have h2 := hC g hg'; omega
    · exfalso; have h1 := hA g hg; have h2 := hC' g hg'; omega
    · exact absurd hg (na g hg')
    · rfl
    · exfalso; have h1 := hA' g hg; have h2 := hB g hg'; omega
    · exfalso; have h1 := hA' g hg; have h2 := hB' g hg'; omega
    · exfalso; have h1 := hA' g hg; have h2 := hC g hg'; omega
    · exfalso; have h1 := hA' g hg; have h2 := hC' g hg'; omega
    · exfalso; have h1 := hB g hg; have h2 := hA g hg'; omega
    · exfalso; have h1 := hB g hg; have h2 := hA' g hg'; omega
    · rfl
    · exact absurd hg' (nb g hg)
    · exfalso; have h1 := hB g hg; have h2 := hC g hg'; omega
    · exfalso; have h1 := hB g hg; have h2 := hC' g hg'; omega
    · exfalso; have h1 := hB' g hg; have h2 := hA g hg'; omega
    · exfalso; have h1 := hB' g hg; have h2 := hA' g hg'; omega
    · exact absurd hg (nb g hg')
    · rfl
    · exfalso; have h1 := hB' g hg; have h2 := hC g hg'; omega
    · exfalso; have h1 := hB' g hg; have h2 := hC' g hg'; omega
    · exfalso; have h1 := hC g hg; have h2 := hA g hg'; omega
    · exfalso; have h1 := hC g hg; have h2 := hA' g hg'; omega
    · exfalso; have h1 := hC g hg; have h2 := hB g hg'; omega
    · exfalso; have h1 := hC g hg; have h2 := hB' g hg'; omega
    · rfl
    · exact absurd hg' (nc g hg)
    · exfalso; have h1 := hC' g hg; have h2 := hA g hg'; omega
    · exfalso; have h1 := hC' g hg; have h2 := hA' g hg'; omega
    · exfalso; have h1 := hC' g hg; have h2 := hB g hg'; omega
    · exfalso; have h1 := hC' g hg; have h2 := hB' g hg'; omega
    · exact absurd hg (nc g hg')
    · rfl
theorem encW_len {kd wd : Int} {pf : ByteArray} {xs ys : List Int} {n : Nat} (h : NodeL kd wd pf xs ys n) (h1 : 1 ≤ kd) (h4 : kd ≤ 4) (hl : xs.length = n) : (encW kd wd pf xs ys n).length = sizeN kd := by
  have hp := h.pref
  have hh := h.high
  have hw : (ws pf).length ≤ 2 := by rw [ws_len]; unfold cnt; omega
  rcases (show kd = 1 ∨ kd = 2 ∨ kd = 3 ∨ kd = 4 by omega) with rfl | rfl | rfl | rfl
  · have hk : (ws (strOfNums xs)).length ≤ 1 := by rw [ws_len, strOfNums_size, hl]; simp [highV] at hh; unfold cnt; omega
    show (pk (splice (splice (((List.replicate 12 (0 : Int)).set 0 wd).set 1 (hdW 1 pf.size n)) 2 (ws pf)) 4 (ws (strOfNums xs))) 5 ys n).length = 12
    have e1 : (((List.replicate 12 (0 : Int)).set 0 wd).set 1 (hdW 1 pf.size n)).length = 12 := by rw [List.length_set, List.length_set, List.length_replicate]
    rw [pk_len, splice_len (by rw [splice_len (by rw [e1]; omega), e1]; omega), splice_len (by rw [e1]; omega), e1]
  · have hk : (ws (strOfNums xs)).length ≤ 2 := by rw [ws_len, strOfNums_size, hl]; simp [highV] at hh; unfold cnt; omega
    show (pk (splice (splice (((List.replicate 24 (0 : Int)).set 0 wd).set 1 (hdW 2 pf.size n)) 2 (ws pf)) 4 (ws (strOfNums xs))) 6 ys n).length = 24
    have e1 : (((List.replicate 24 (0 : Int)).set 0 wd).set 1 (hdW 2 pf.size n)).length = 24 := by rw [List.length_set, List.length_set, List.length_replicate]
    rw [pk_len, splice_len (by rw [splice_len (by rw [e1]; omega), e1]; omega), splice_len (by rw [e1]; omega), e1]
  · have hk : (ws (strOfNums (plc xs n))).length = 32 := by rw [ws_len, strOfNums_size, plc_len]; rfl
    show (pk (splice (splice (((List.replicate 88 (0 : Int)).set 0 wd).set 1 (hdW 3 pf.size n)) 2 (ws pf)) 4 (ws (strOfNums (plc xs n)))) 36 ys n).length = 88
    have e1 : (((List.replicate 88 (0 : Int)).set 0 wd).set 1 (hdW 3 pf.size n)).length = 88 := by rw [List.length_set, List.length_set, List.length_replicate]
    rw [pk_len, splice_len (by rw [splice_len (by rw [e1]; omega), e1]; omega), splice_len (by rw [e1]; omega), e1]
  · show (pz (splice (((List.replicate 264 (0 : Int)).set 0 wd).set 1 (hdW 4 pf.size n)) 2 (ws pf)) xs ys n).length = 264
    have e1 : (((List.replicate 264 (0 : Int)).set 0 wd).set 1 (hdW 4 pf.size n)).length = 264 := by rw [List.length_set, List.length_set, List.length_replicate]
    rw [pz_len, splice_len (by rw [e1]; omega), e1]
theorem mid_none {w : World} {B blk : Nat} {t : TypeId} (h : w.heap[blk]? = some (.cells #[] t (0, 0))) (hB : B ≤ blk) : Mid w B t 1 (.slice (some ⟨blk, 0, none⟩) 0 0) 0 [] :=
  ⟨rfl, .inr ⟨blk, 0, 0, #[], rfl, hB, h, Nat.le_refl _, Nat.zero_le _, by simp, by simp⟩⟩
set_option maxRecDepth 100000 in
set_option maxHeartbeats 12800000 in
theorem stays_any (kk ww : Int) (pf : ByteArray) (A : Option Addr) (n c0 : Nat) (xs : List Int) (fr b kind : Int) (w : World) (hx : Reads w w.heap.size 1 A n (xs.map (Value.int .u8))) (hb : Byt xs) (hn : n ≤ maxLen) (hp : pf.size ≤ maxLen) (hw0 : 0 ≤ ww) (hw1 : ww < 18446744073709551616) (hb0 : 0 ≤ b) (hb256 : b < 256) :
    Calls Try.prog 6 #[.agg #[.int .i64 kk, .int .u64 ww, .string pf, .slice A n c0, .int .i64 fr], .int .u8 b, .int .i64 kind] w fun e w' => e = .returned (.bool true) ∧ Below w.heap.size w w' := by
  obtain ⟨ib, bi, bz0, bz1, bz2⟩ := info_parts infoB
  obtain ⟨ii, ji, jz0, jz1, jz2⟩ := info_parts infoI
  have HBW : Hid (Below w.heap.size w (w.alloc (.cells #[.int .i64 kk, .int .u64 ww, .string pf, .slice A n c0, .int .i64 fr] 25))) := Lib.hid ((Below.refl _ _).alloc (Nat.le_refl _) _)
  have HX : Hid (Reads (w.alloc (.cells #[.int .i64 kk, .int .u64 ww, .string pf, .slice A n c0, .int .i64 fr] 25)) (w.alloc (.cells #[.int .i64 kk, .int .u64 ww, .string pf, .slice A n c0, .int .i64 fr] 25)).heap.size 1 A n (xs.map (Value.int .u8))) := Lib.hid ((hx.below HBW.out).more HBW.out.size)
  have HBY := Lib.hid hb
  have HWX := Lib.hid (And.intro hw0 hw1)
  clear hx hb hw0 hw1
  go_enter Try.func6, Try.ntmps6
  go_upto_region 2 with (first
    | (go_at_call 9; refine (made_any kk ww pf A n c0 xs fr _ HX.out HBY.out hn hp HWX.out.1 HWX.out.2).mono ?_
       rintro e w1 ⟨v, kd, wd, pf', zs, ks, m, rfl, hnl, hm, hpw, hby, hk1, hkd4, hwd0, hwd1, D, d, D', d', rfl, hmx, hmy, hb1⟩
       unfold nodeV
       have hal := (Below.refl w1.heap.size w1).alloc (Nat.le_refl _) (.cells #[.int .i64 kd, .int .u64 wd, .string pf', .slice D m d, .slice D' m d'] 28)
       have BZ := (HBW.out.trans (hb1.mono HBW.out.size)).trans (hal.mono (by have := HBW.out.size; have := hb1.size; omega))
       have NW := NX.new (kd := kd) (wd := wd) (pf := pf') HBW.out.size hb1.size hmx hmy
       obtain ⟨wz, hw⟩ : ∃ wz, w1.alloc (.cells #[.int .i64 kd, .int .u64 wd, .string pf', .slice D m d, .slice D' m d'] 28) = wz := ⟨_, rfl⟩
       rw [hw] at NW BZ
       obtain ⟨q, hq⟩ : ∃ q, w1.heap.size = q := ⟨_, rfl⟩
       rw [hq] at NW
       have HN := Lib.hid NW
       have HB := Lib.hid BZ
       have HWwz := Lib.hid hw
       have HQq := Lib.hid hq
       clear hw hq BZ hal NW
       have HNL := Lib.hid hnl
       have HPW := Lib.hid hpw
       have HBYZ := Lib.hid hby
       clear hmx hmy hb1 hnl hpw hby)
    | fail)
  rw [HWwz.out, HQq.out]
  clear HWwz HQq HX HBW HBY HWX
  have p0 := cell_of HN.out.box 0
  have p1 := cell_of HN.out.box 1
  have p2 := cell_of HN.out.box 2
  have p3 := cell_of HN.out.box 3
  have p4 := cell_of HN.out.box 4
  go_upto_region 3 with (first
    | (go_at_call 23; refine (enc_any kd wd pf' D d D' d' m zs ks wz HNL.out hk1 hkd4 HBYZ.out HN.out.x.reads HN.out.y.reads).mono ?_
       rintro e w2 ⟨ge, rfl, hge, hwe, hb2⟩
       have HN1 := Lib.hid (HN.out.keep hb2)
       have HB1 := Lib.hid (HB.out.trans (hb2.mono HB.out.size))
       have HWE := Lib.hid hwe
       have HGE := Lib.hid hge
       clear hb2 hwe hge)
    | fail)
  clear p0 p1 p2 p3 p4 HN HB
  go_cut [9, 10] from 25 to 33 (fun v u wx => ∃ A9 c9 A10 c10, v = .slice A9 m c9 ∧ u = .slice A10 m c10 ∧ Hid (Below w2.heap.size w2 wx ∧ Mid wx w2.heap.size 5 1 (.slice A9 m c9) m (zs.map (Value.int .u8)) ∧ Mid wx w2.heap.size 3 1 (.slice A10 m c10) m (ks.map (Value.int .i64))))
  case first =>
    have p3 := cell_of HN1.out.box 3
    have p4 := cell_of HN1.out.box 4
    obtain ⟨X, hX⟩ : ∃ X, X = w2.heap.size := ⟨_, rfl⟩
    have HQX : Hid (q < w2.heap.size) := Lib.hid (lt_of_heap HN1.out.box)
    have HBW1 : Hid (Below w2.heap.size w2 (w2.drew.alloc (.cells #[] 5))) := Lib.hid ((Below.refl _ _).drew.alloc (Nat.le_refl _) _)
    have HBW2 : Hid (Below w2.heap.size w2 ((w2.drew.alloc (.cells #[] 5)).alloc (.cells #[] 3))) := Lib.hid (((Below.refl _ _).drew.alloc (Nat.le_refl _) _).alloc (by simp) _)
    have HBW3 : Hid (Below w2.heap.size w2 ((w2.drew.alloc (.cells #[] 3)).alloc (.cells #[] 5))) := Lib.hid (((Below.refl _ _).drew.alloc (Nat.le_refl _) _).alloc (by simp) _)
    have M51 : Hid (Mid (w2.drew.alloc (.cells #[] 5)) w2.heap.size 5 1 (.slice (some ⟨w2.heap.size, 0, none⟩) 0 0) 0 []) := Lib.hid (mid_none (heap_alloc_new w2.drew _) (Nat.le_refl _))
    have M52 : Hid (Mid ((w2.drew.alloc (.cells #[] 5)).alloc (.cells #[] 3)) w2.heap.size 5 1 (.slice (some ⟨w2.heap.size, 0, none⟩) 0 0) 0 []) := Lib.hid (mid_none ((heap_alloc_old _ _ (by simp)).trans (heap_alloc_new w2.drew _)) (Nat.le_refl _))
    have M32 : Hid (Mid ((w2.drew.alloc (.cells #[] 5)).alloc (.cells #[] 3)) w2.heap.size 3 1 (.slice (some ⟨w2.heap.size + 1, 0, none⟩) 0 0) 0 []) := Lib.hid (mid_none (by have := heap_alloc_new (w2.drew.alloc (.cells #[] 5)) (.cells #[] 3); simpa using this) (Nat.le_succ _))
    have M33 : Hid (Mid ((w2.drew.alloc (.cells #[] 3)).alloc (.cells #[] 5)) w2.heap.size 3 1 (.slice (some ⟨w2.heap.size, 0, none⟩) 0 0) 0 []) := Lib.hid (mid_none ((heap_alloc_old _ _ (by simp)).trans (heap_alloc_new w2.drew _)) (Nat.le_refl _))
    have M53 : Hid (Mid ((w2.drew.alloc (.cells #[] 3)).alloc (.cells #[] 5)) w2.heap.size 5 1 (.slice (some ⟨w2.heap.size + 1, 0, none⟩) 0 0) 0 []) := Lib.hid (mid_none (by have := heap_alloc_new (w2.drew.alloc (.cells #[] 3)) (.cells #[] 5); simpa using this) (Nat.le_succ _))
    have HXR := Lib.hid HN1.out.x.reads
    have HYR := Lib.hid HN1.out.y.reads
    go_region_held3 (fun w' => w'.cell? ⟨q, 3, none⟩ = some (.slice D m d) ∧ w'.cell? ⟨q, 4, none⟩ = some (.slice D' m d')) (first | with_reducible exact ⟨r3, r4⟩ | with_reducible exact ⟨s3, s4⟩ | (go_keep; done))
      (first
        | (refine step_append_src (by rfl) _ _ _ (by rfl) w2.heap.size 5 ib _ 1 1 Try.underlying23 bi bz0 bz1 bz2 rfl (by omega) (.slice (some ⟨w2.heap.size, 0, none⟩) 0 0) 0 [] (by rfl) M51.out w2.heap.size D m d (zs.map (Value.int .u8)) (by rfl) (HXR.out.below HBW1.out) (one_ints .u8 _) (by unfold maxLen; omega) (by omega) HBW1.out.size ?_
           intro v3 w3 hm3 hr3
           obtain ⟨A9, c9, rfl⟩ := hm3.form
           rw [Nat.zero_add, List.nil_append] at hm3
           have HB3 : Hid (Below w2.heap.size w2 w3) := Lib.hid (HBW1.out.grown hr3.grown HBW1.out.size (fun k hk => (M51.out.lt k hk).1))
           have HM3 := Lib.hid hm3
           have hb5 := (heap_below HB3.out HQX.out).trans HN1.out.box
           have r3 := cell_of hb5 3
           have r4 := cell_of hb5 4
           clear hm3 hr3 hb5)
        | (refine step_append_src (by rfl) _ _ _ (by rfl) w2.heap.size 5 ib _ 1 1 Try.underlying23 bi bz0 bz1 bz2 rfl (by omega) (.slice (some ⟨w2.heap.size, 0, none⟩) 0 0) 0 [] (by rfl) M52.out w2.heap.size D m d (zs.map (Value.int .u8)) (by rfl) (HXR.out.below HBW2.out) (one_ints .u8 _) (by unfold maxLen; omega) (by omega) HBW2.out.size ?_
           intro v3 w3 hm3 hr3
           obtain ⟨A9, c9, rfl⟩ := hm3.form
           rw [Nat.zero_add, List.nil_append] at hm3
           have HB3 : Hid (Below w2.heap.size w2 w3) := Lib.hid (HBW2.out.grown hr3.grown HBW2.out.size (fun k hk => (M52.out.lt k hk).1))
           have HM3 := Lib.hid hm3
           have hb5 := (heap_below HB3.out HQX.out).trans HN1.out.box
           have r3 := cell_of hb5 3
           have r4 := cell_of hb5 4
           have HI3 : Hid (Mid w3 w2.heap.size 3 1 (.slice (some ⟨w2.heap.size + 1, 0, none⟩) 0 0) 0 []) := Lib.hid (M32.out.same fun k hk => hr3.keep (M32.out.lt k hk).2 (fun e => Mid.apart M52.out M32.out e.symm hk rfl) rfl)
           clear hm3 hr3 hb5)
        | (refine step_append_src (by rfl) _ _ _ (by rfl) w2.heap.size 5 ib _ 1 1 Try.underlying23 bi bz0 bz1 bz2 rfl (by omega) (.slice (some ⟨w2.heap.size + 1, 0, none⟩) 0 0) 0 [] (by rfl) M53.out w2.heap.size D m d (zs.map (Value.int .u8)) (by rfl) (HXR.out.below HBW3.out) (one_ints .u8 _) (by unfold maxLen; omega) (by omega) HBW3.out.size ?_
           intro v3 w3 hm3 hr3
           obtain ⟨A9, c9, rfl⟩ := hm3.form
           rw [Nat.zero_add, List.nil_append] at hm3
           have HB3 : Hid (Below w2.heap.size w2 w3) := Lib.hid (HBW3.out.grown hr3.grown HBW3.out.size (fun k hk => (M53.out.lt k hk).1))
           have HM3 := Lib.hid hm3
           have hb5 := (heap_below HB3.out HQX.out).trans HN1.out.box
           have r3 := cell_of hb5 3
           have r4 := cell_of hb5 4
           have HI3 : Hid (Mid w3 w2.heap.size 3 1 (.slice (some ⟨w2.heap.size, 0, none⟩) 0 0) 0 []) := Lib.hid (M33.out.same fun k hk => hr3.keep (M33.out.lt k hk).2 (fun e => Mid.apart M53.out M33.out e.symm hk rfl) rfl)
           clear hm3 hr3 hb5)
        | (refine step_append_src (by rfl) _ _ _ (by rfl) w2.heap.size 3 ii _ 1 8 Try.underlying26 ji jz0 jz1 jz2 rfl (by omega) (.slice (some ⟨w2.heap.size + 1, 0, none⟩) 0 0) 0 [] (by rfl) HI3.out w2.heap.size D' m d' (ks.map (Value.int .i64)) (by rfl) (HYR.out.below HB3.out) (one_ints .i64 _) (by unfold maxLen; omega) (by omega) HB3.out.size ?_
           intro v4 w4 hm4 hr4
           obtain ⟨A10, c10, rfl⟩ := hm4.form
           rw [Nat.zero_add, List.nil_append] at hm4
           have HB4 : Hid (Below w2.heap.size w2 w4) := Lib.hid (HB3.out.grown hr4.grown HB3.out.size (fun k hk => ((HI3.out).lt k hk).1))
           have HM4 := Lib.hid hm4
           have hb5 := (heap_below HB4.out HQX.out).trans HN1.out.box
           have s3 := cell_of hb5 3
           have s4 := cell_of hb5 4
           have HM9 : Hid (Mid w4 w2.heap.size 5 1 (.slice A9 m c9) m (zs.map (Value.int .u8))) := Lib.hid (HM3.out.same fun k hk => hr4.keep (HM3.out.lt k hk).2 (fun e => Mid.apart HM3.out HI3.out hk e.symm rfl) rfl)
           clear hm4 hr4 hb5)
        | (refine step_append_src (by rfl) _ _ _ (by rfl) w2.heap.size 3 ii _ 1 8 Try.underlying26 ji jz0 jz1 jz2 rfl (by omega) (.slice (some ⟨w2.heap.size, 0, none⟩) 0 0) 0 [] (by rfl) HI3.out w2.heap.size D' m d' (ks.map (Value.int .i64)) (by rfl) (HYR.out.below HB3.out) (one_ints .i64 _) (by unfold maxLen; omega) (by omega) HB3.out.size ?_
           intro v4 w4 hm4 hr4
           obtain ⟨A10, c10, rfl⟩ := hm4.form
           rw [Nat.zero_add, List.nil_append] at hm4
           have HB4 : Hid (Below w2.heap.size w2 w4) := Lib.hid (HB3.out.grown hr4.grown HB3.out.size (fun k hk => ((HI3.out).lt k hk).1))
           have HM4 := Lib.hid hm4
           have hb5 := (heap_below HB4.out HQX.out).trans HN1.out.box
           have s3 := cell_of hb5 3
           have s4 := cell_of hb5 4
           have HM9 : Hid (Mid w4 w2.heap.size 5 1 (.slice A9 m c9) m (zs.map (Value.int .u8))) := Lib.hid (HM3.out.same fun k hk => hr4.keep (HM3.out.lt k hk).2 (fun e => Mid.apart HM3.out HI3.out hk e.symm rfl) rfl)
           clear hm4 hr4 hb5)
        | (refine step_append_src (by rfl) _ _ _ (by rfl) w2.heap.size 3 ii _ 1 8 Try.underlying26 ji jz0 jz1 jz2 rfl (by omega) (.slice (some ⟨w3.heap.size, 0, none⟩) 0 0) 0 [] (by rfl) (mid_none (heap_alloc_new w3 _) HB3.out.size : Mid (w3.alloc (.cells #[] 3)) w2.heap.size 3 1 _ 0 []) w2.heap.size D' m d' (ks.map (Value.int .i64)) (by rfl) (HYR.out.below (HB3.out.alloc HB3.out.size (.cells #[] 3))) (one_ints .i64 _) (by unfold maxLen; omega) (by omega) (HB3.out.alloc HB3.out.size (.cells #[] 3)).size ?_
           intro v4 w4 hm4 hr4
           obtain ⟨A10, c10, rfl⟩ := hm4.form
           rw [Nat.zero_add, List.nil_append] at hm4
           have HB4 : Hid (Below w2.heap.size w2 w4) := Lib.hid ((HB3.out.alloc HB3.out.size (.cells #[] 3)).grown hr4.grown (HB3.out.alloc HB3.out.size (.cells #[] 3)).size (fun k hk => (((mid_none (heap_alloc_new w3 _) HB3.out.size : Mid (w3.alloc (.cells #[] 3)) w2.heap.size 3 1 _ 0 [])).lt k hk).1))
           have HM4 := Lib.hid hm4
           have hb5 := (heap_below HB4.out HQX.out).trans HN1.out.box
           have s3 := cell_of hb5 3
           have s4 := cell_of hb5 4
           have HM9 : Hid (Mid w4 w2.heap.size 5 1 (.slice A9 m c9) m (zs.map (Value.int .u8))) := Lib.hid ((HM3.out.same fun k hk => heap_alloc_old w3 _ (HM3.out.lt k hk).2).same fun k hk => hr4.keep (Nat.lt_of_lt_of_le (HM3.out.lt k hk).2 (by simp)) (fun e => by cases e; exact absurd (HM3.out.lt _ hk).2 (Nat.lt_irrefl _)) rfl)
           clear hm4 hr4 hb5))
    all_goals
      go_wp2
      go_meet
      exact ⟨A9, c9, A10, c10, rfl, rfl, Lib.hid ⟨HB4.out, HM9.out, HM4.out⟩⟩
  obtain ⟨A9, c9, A10, c10, rfl, rfl, HC⟩ := hcut
  rename World => w3
  have HN2 := Lib.hid (HN1.out.keep HC.out.1)
  have HB2 := Lib.hid (HB1.out.trans (HC.out.1.mono HB1.out.size))
  have HM9 := Lib.hid HC.out.2.1
  have HM10 := Lib.hid HC.out.2.2
  have HWE2 : Hid (WB w3 ge (encW kd wd pf' zs ks m)) := Lib.hid ((heap_below HC.out.1 (Blk.lt HWE.out)).trans HWE.out)
  have HKL : Hid (zs.length = m ∧ ks.length = m) := Lib.hid ⟨klen HN2.out.x.reads, klen HN2.out.y.reads⟩
  clear HC HN1 HB1 HWE
  obtain ⟨T1, hT1⟩ : ∃ T1, (isN b zs || decide ((m : Int) < highV kd)) = T1 := ⟨_, rfl⟩
  have HOK := Lib.hid hT1
  clear hT1
  obtain ⟨B1, hB1⟩ : ∃ B1, B1 = w3.heap.size := ⟨_, rfl⟩
  have HBLE : Hid (B1 ≤ w3.heap.size) := Lib.hid (Nat.le_of_eq hB1)
  have HBE := Lib.hid hB1
  clear hB1
  go_upto_region 4 with (fail)
  go_cut [11, 12] from 33 to 40 (fun p ok wx => ∃ q2, p = .pointer (some ⟨q2, 0, none⟩) ∧ Hid (∃ kd2 wd2 pf2 G g G' g' m2 zs2 ks2, NX B1 q2 kd2 wd2 pf2 G g G' g' m2 zs2 ks2 wx ∧ Below w3.heap.size w3 wx))
  case first =>
    have hbx := HN2.out.box
    have p0 := cell_of hbx 0
    have p1 := cell_of hbx 1
    have p2 := cell_of hbx 2
    have p3 := cell_of hbx 3
    have p4 := cell_of hbx 4
    have HAL : Hid (Below w3.heap.size w3 (w3.alloc (.cells #[.int .i64 0, .int .u64 0, .string ⟨#[]⟩, .slice none 0 0, .slice none 0 0] 28))) := Lib.hid ((Below.refl _ _).alloc (Nat.le_refl _) _)
    have HAS : Hid ((w3.alloc (.cells #[.int .i64 0, .int .u64 0, .string ⟨#[]⟩, .slice none 0 0, .slice none 0 0] 28)).heap.size = w3.heap.size + 1) := Lib.hid (by simp)
    have HAQ : Hid ((w3.alloc (.cells #[.int .i64 0, .int .u64 0, .string ⟨#[]⟩, .slice none 0 0, .slice none 0 0] 28)).heap[w3.heap.size]? = some (.cells #[.int .i64 0, .int .u64 0, .string ⟨#[]⟩, .slice none 0 0, .slice none 0 0] 28 (0, 0))) := Lib.hid (heap_alloc_new w3 _)
    have HLB : Hid (B1 ≤ w3.heap.size) := HBLE
    clear hbx
    go_region_held3 (fun w' => w'.cell? ⟨q, 0, none⟩ = some (.int .i64 kd) ∧ w'.cell? ⟨q, 1, none⟩ = some (.int .u64 wd) ∧ w'.cell? ⟨q, 2, none⟩ = some (.string pf') ∧ w'.cell? ⟨q, 3, none⟩ = some (.slice D m d) ∧ w'.cell? ⟨q, 4, none⟩ = some (.slice D' m d')) (first | with_reducible exact ⟨p0, p1, p2, p3, p4⟩ | with_reducible exact ⟨r0, r1, r2, r3, r4⟩ | with_reducible exact ⟨t0, t1, t2, t3, t4⟩ | (go_keep; done))
      (first
        | (go_at_call 17; refine (ref_any 1 1 false (by omega) (by omega) (by omega) (by omega) _).mono ?_; rintro e w' ⟨rfl, hw'⟩; replace hw' := hw'.symm; subst hw')
        | (go_at_call 19
           have hnx := HN2.out
           have WO := with_any kd wd pf' D d D' d' m zs ks b _ 1 1 false w3.drew HNL.out hm rfl (by omega) (by omega) (by omega) (by omega) hnx.x.reads.drew hnx.y.reads.drew
           unfold nodeV at WO
           with_reducible refine WO.mono ?_
           clear WO
           rintro e wn ⟨kd9, wd9, pf9, Gn, gn, Hn, hn, m9, zs9, ks9, rfl, hm1, hm2, hb1, him⟩
           rw [HOK.out]
           rw [HOK.out] at him
           unfold nodeV
           have HIM := Lib.hid him
           have hb2 : Below w3.heap.size w3 wn := ⟨hb1.os, hb1.tape, hb1.output, hb1.size, hb1.block⟩
           have hbn : Below w3.heap.size w3 wn := hb2
           have hh1 : wn.heap[q]? = some (.cells #[.int .i64 kd, .int .u64 wd, .string pf', .slice D m d, .slice D' m d'] 28 (0, 0)) := (heap_below hbn (lt_of_heap HN2.out.box)).trans HN2.out.box
           have r0 := cell_of hh1 0
           have r1 := cell_of hh1 1
           have r2 := cell_of hh1 2
           have r3 := cell_of hh1 3
           have r4 := cell_of hh1 4
           have NW : NX (B1) wn.heap.size kd9 wd9 pf9 Gn gn Hn hn m9 zs9 ks9 _ := NX.new (kd := kd9) (wd := wd9) (pf := pf9) HLB.out hbn.size hm1 hm2
           have BZ := hbn.alloc hbn.size (.cells #[.int .i64 kd9, .int .u64 wd9, .string pf9, .slice Gn m9 gn, .slice Hn m9 hn] 28)
           obtain ⟨wz, hwz⟩ : ∃ wz, wn.alloc (.cells #[.int .i64 kd9, .int .u64 wd9, .string pf9, .slice Gn m9 gn, .slice Hn m9 hn] 28) = wz := ⟨_, rfl⟩
           rw [hwz] at NW BZ
           obtain ⟨qn, hq⟩ : ∃ qn, wn.heap.size = qn := ⟨_, rfl⟩
           rw [hq] at NW
           have HWZ := Lib.hid hwz
           have HQE := Lib.hid hq
           have HNW := Lib.hid NW
           have HBZ := Lib.hid BZ
           clear hwz hq NW BZ hm1 hm2 hb1 hb2 hbn hh1 him hnx)
        | (go_at_call 19
           have hnx := HN2.out.keep HAL.out
           have WO := with_any kd wd pf' D d D' d' m zs ks b _ 1 1 false (w3.alloc (.cells #[.int .i64 0, .int .u64 0, .string ⟨#[]⟩, .slice none 0 0, .slice none 0 0] 28)).drew HNL.out hm rfl (by omega) (by omega) (by omega) (by omega) hnx.x.reads.drew hnx.y.reads.drew
           unfold nodeV at WO
           with_reducible refine WO.mono ?_
           clear WO
           rintro e wn ⟨kd9, wd9, pf9, Gn, gn, Hn, hn, m9, zs9, ks9, rfl, hm1, hm2, hb1, him⟩
           rw [HOK.out]
           rw [HOK.out] at him
           unfold nodeV
           have HIM := Lib.hid him
           have hb2 : Below (w3.alloc (.cells #[.int .i64 0, .int .u64 0, .string ⟨#[]⟩, .slice none 0 0, .slice none 0 0] 28)).heap.size (w3.alloc (.cells #[.int .i64 0, .int .u64 0, .string ⟨#[]⟩, .slice none 0 0, .slice none 0 0] 28)) wn := ⟨hb1.os, hb1.tape, hb1.output, hb1.size, hb1.block⟩
           have hbn : Below w3.heap.size w3 wn := HAL.out.trans (hb2.mono (by rw [HAS.out]; omega))
           have hh1 : wn.heap[q]? = some (.cells #[.int .i64 kd, .int .u64 wd, .string pf', .slice D m d, .slice D' m d'] 28 (0, 0)) := (heap_below hbn (lt_of_heap HN2.out.box)).trans HN2.out.box
           have r0 := cell_of hh1 0
           have r1 := cell_of hh1 1
           have r2 := cell_of hh1 2
           have r3 := cell_of hh1 3
           have r4 := cell_of hh1 4
           have hq1 : wn.heap[w3.heap.size]? = some (.cells #[.int .i64 0, .int .u64 0, .string ⟨#[]⟩, .slice none 0 0, .slice none 0 0] 28 (0, 0)) := (heap_below hb2 (by rw [HAS.out]; omega)).trans HAQ.out
           have HQ1 := Lib.hid hq1
           have s0 := cell_of hq1 0
           have f0 := frozen_of hq1 0
           have s1 := cell_of hq1 1
           have f1 := frozen_of hq1 1
           have s2 := cell_of hq1 2
           have f2 := frozen_of hq1 2
           have s3 := cell_of hq1 3
           have f3 := frozen_of hq1 3
           have s4 := cell_of hq1 4
           have f4 := frozen_of hq1 4
           have hne : q ≠ w3.heap.size := by have := lt_of_heap HN2.out.box; omega
           have ht1 : (((((wn.setCell ⟨w3.heap.size, 0, none⟩ (.int .i64 kd9)).setCell ⟨w3.heap.size, 1, none⟩ (.int .u64 wd9)).setCell ⟨w3.heap.size, 2, none⟩ (.string pf9)).setCell ⟨w3.heap.size, 3, none⟩ (.slice Gn m9 gn)).setCell ⟨w3.heap.size, 4, none⟩ (.slice Hn m9 hn)).heap[q]? = some (.cells #[.int .i64 kd, .int .u64 wd, .string pf', .slice D m d, .slice D' m d'] 28 (0, 0)) := heap_far hne (heap_far hne (heap_far hne (heap_far hne (heap_far hne hh1))))
           have t0 := cell_of ht1 0
           have t1 := cell_of ht1 1
           have t2 := cell_of ht1 2
           have t3 := cell_of ht1 3
           have t4 := cell_of ht1 4
           have NW : NX (B1) w3.heap.size kd9 wd9 pf9 Gn gn Hn hn m9 zs9 ks9 (put5 wn w3.heap.size kd9 wd9 pf9 Gn gn Hn hn m9) := NX.old (B := B1) (kd := kd9) (wd := wd9) (pf := pf9) HQ1.out HLB.out (by show B1 ≤ (w3.alloc (.cells #[.int .i64 0, .int .u64 0, .string ⟨#[]⟩, .slice none 0 0, .slice none 0 0] 28)).heap.size; rw [HAS.out]; have := HLB.out; omega) hm1 hm2
           have BZ := put5_below (b := w3.heap.size) (kd := kd9) (wd := wd9) (pf := pf9) (G := Gn) (g := gn) (G' := Hn) (g' := hn) (m := m9) hbn (Nat.le_refl _)
           clear ht1 hne hq1
           obtain ⟨wz, hwz⟩ : ∃ wz, put5 wn w3.heap.size kd9 wd9 pf9 Gn gn Hn hn m9 = wz := ⟨_, rfl⟩
           rw [hwz] at NW BZ
           unfold put5 at hwz
           obtain ⟨qn, hq⟩ : ∃ qn, w3.heap.size = qn := ⟨_, rfl⟩
           rw [hq] at NW
           have HWZ := Lib.hid hwz
           have HQE := Lib.hid hq
           have HNW := Lib.hid NW
           have HBZ := Lib.hid BZ
           clear hwz hq NW BZ hm1 hm2 hb1 hb2 hbn hh1 him hnx))
    all_goals
      rw [HWZ.out, HQE.out]
      clear HIM
      go_wp2
      go_meet
      exact ⟨qn, rfl, Lib.hid ⟨kd9, wd9, pf9, Gn, gn, Hn, hn, m9, zs9, ks9, HNW.out, HBZ.out⟩⟩
  obtain ⟨qx, rfl, HG⟩ := hcut
  obtain ⟨kx, wx, px, Gx, gx, Hx, hx, mx, zx, yx, hnx, hbx⟩ := HG.out
  rename World => w4
  have HN3 := Lib.hid (HN2.out.keep hbx)
  have HX1 := Lib.hid hnx
  have HBB1 := Lib.hid hbx
  have HB4 := Lib.hid (HB2.out.trans (hbx.mono HB2.out.size))
  have p0 := cell_of HN3.out.box 0
  have p1 := cell_of HN3.out.box 1
  have p2 := cell_of HN3.out.box 2
  have p3 := cell_of HN3.out.box 3
  have p4 := cell_of HN3.out.box 4
  have HX0 := Lib.hid (fun g (hg : (Value.slice Gx mx gx).ownBlock = some g) => (hnx.x.lt g hg))
  have HX0' := Lib.hid (fun g (hg : (Value.slice Hx mx hx).ownBlock = some g) => (hnx.y.lt g hg))
  clear hnx hbx HG
  go_upto_region 6 with (first
    | (go_at_call 20
       have WO := without_some kd wd pf' D d D' d' m zs ks b w4 HNL.out hm HN3.out.x.reads HN3.out.y.reads
       unfold nodeV at WO
       refine WO.mono ?_
       clear WO
       rintro e w5 ⟨ky, wy, py, Gy, gy, Hy, hy, my, zy, yy, bv, rfl, hmx, hmy, hb5⟩
       unfold nodeV
       have hal := (Below.refl w5.heap.size w5).alloc (Nat.le_refl _) (.cells #[.int .i64 ky, .int .u64 wy, .string py, .slice Gy my gy, .slice Hy my hy] 28)
       have BZ := (HB4.out.trans (hb5.mono HB4.out.size)).trans (hal.mono (by have := HB4.out.size; have := hb5.size; omega))
       have NW := NX.new (kd := ky) (wd := wy) (pf := py) HB4.out.size hb5.size hmx hmy
       have NZ0 := (HN3.out.keep hb5).keep hal
       have NZ1 := (HX1.out.keep hb5).keep hal
       obtain ⟨w6, hw⟩ : ∃ w6, w5.alloc (.cells #[.int .i64 ky, .int .u64 wy, .string py, .slice Gy my gy, .slice Hy my hy] 28) = w6 := ⟨_, rfl⟩
       rw [hw] at NW BZ NZ0 NZ1
       obtain ⟨qy, hq⟩ : ∃ qy, w5.heap.size = qy := ⟨_, rfl⟩
       rw [hq] at NW
       have HY2 := Lib.hid NW
       have HN4 := Lib.hid NZ0
       have HX2 := Lib.hid NZ1
       have HB6 := Lib.hid BZ
       have HWw6 := Lib.hid hw
       have HQqy := Lib.hid hq
       clear hw hq BZ hal NW NZ0 NZ1
       have HT6 : Hid (Below w3.heap.size w3 w6) := Lib.hid (by rw [← HWw6.out]; exact (HBB1.out.trans (hb5.mono HBB1.out.size)).alloc (by have := HBB1.out.size; have := hb5.size; omega) _)
       have HS46 : Hid (w4.heap.size ≤ w6.heap.size) := Lib.hid (by rw [← HWw6.out]; have := hb5.size; simp; omega)
       have HYL := Lib.hid (fun g (hg : (Value.slice Gy my gy).ownBlock = some g) => (hmx.lt g hg).1)
       have HYL' := Lib.hid (fun g (hg : (Value.slice Hy my hy).ownBlock = some g) => (hmy.lt g hg).1)
       clear hmx hmy hb5)
    | fail)
  rw [HWw6.out, HQqy.out]
  clear HWw6 HQqy p0 p1 p2 p3 p4 HN3 HB4 HX1
  have HY0 := Lib.hid (fun g (hg : (Value.slice Gy my gy).ownBlock = some g) => (HY2.out.x.lt g hg).2)
  have HY0' := Lib.hid (fun g (hg : (Value.slice Hy my hy).ownBlock = some g) => (HY2.out.y.lt g hg).2)
  obtain ⟨k4, hk4, hk49⟩ := withinV_nat kind 4 (by omega)
  have HQ : Hid (0 + withinV kind (3 - 0 + 1) = (k4 : Int)) := Lib.hid (by rw [← hk4]; show 0 + withinV kind (3 - 0 + 1) = withinV kind ((4 : Nat) : Int); rw [show ((3 : Int) - 0 + 1) = ((4 : Nat) : Int) from by omega]; omega)
  obtain ⟨cc, hcc⟩ : ∃ cc, cc = 1 + (k4 : Int) := ⟨_, rfl⟩
  have hw1 : IntKind.i64.wrap (1 + (k4 : Int)) = cc := by rw [wraps_i64 _ (by omega) (by omega), hcc]
  have HC14 : Hid (1 ≤ cc ∧ cc ≤ 4) := Lib.hid (by omega)
  clear hk4 hcc
  obtain ⟨B3, hB3⟩ : ∃ B3, B3 = w6.heap.size := ⟨_, rfl⟩
  have HBLE : Hid (B3 ≤ w6.heap.size) := Lib.hid (Nat.le_of_eq hB3)
  have HB3E := Lib.hid hB3
  clear hB3
  go_cut [15, 16] from 46 to 54 (fun p ok wx => ∃ q2, p = .pointer (some ⟨q2, 0, none⟩) ∧ Hid (∃ kd2 wd2 pf2 G g G' g' m2 zs2 ks2, NX B3 q2 kd2 wd2 pf2 G g G' g' m2 zs2 ks2 wx ∧ Below w6.heap.size w6 wx))
  case first =>
    have hbx := HN4.out.box
    have p0 := cell_of hbx 0
    have p1 := cell_of hbx 1
    have p2 := cell_of hbx 2
    have p3 := cell_of hbx 3
    have p4 := cell_of hbx 4
    have HAL : Hid (Below w6.heap.size w6 (w6.alloc (.cells #[.int .i64 0, .int .u64 0, .string ⟨#[]⟩, .slice none 0 0, .slice none 0 0] 28))) := Lib.hid ((Below.refl _ _).alloc (Nat.le_refl _) _)
    have HAS : Hid ((w6.alloc (.cells #[.int .i64 0, .int .u64 0, .string ⟨#[]⟩, .slice none 0 0, .slice none 0 0] 28)).heap.size = w6.heap.size + 1) := Lib.hid (by simp)
    have HAQ : Hid ((w6.alloc (.cells #[.int .i64 0, .int .u64 0, .string ⟨#[]⟩, .slice none 0 0, .slice none 0 0] 28)).heap[w6.heap.size]? = some (.cells #[.int .i64 0, .int .u64 0, .string ⟨#[]⟩, .slice none 0 0, .slice none 0 0] 28 (0, 0))) := Lib.hid (heap_alloc_new w6 _)
    have HLB : Hid (B3 ≤ w6.heap.size) := HBLE
    clear hbx
    go_region_held3 (fun w' => w'.cell? ⟨q, 0, none⟩ = some (.int .i64 kd) ∧ w'.cell? ⟨q, 1, none⟩ = some (.int .u64 wd) ∧ w'.cell? ⟨q, 2, none⟩ = some (.string pf') ∧ w'.cell? ⟨q, 3, none⟩ = some (.slice D m d) ∧ w'.cell? ⟨q, 4, none⟩ = some (.slice D' m d')) (first | with_reducible exact ⟨p0, p1, p2, p3, p4⟩ | with_reducible exact ⟨r0, r1, r2, r3, r4⟩ | with_reducible exact ⟨t0, t1, t2, t3, t4⟩ | (go_keep; done))
      (first
        | (go_at_call 10; refine (within_any _ 0 3 (by omega) (by omega) (by omega) _).mono ?_; rintro e w' ⟨rfl, hw'⟩; replace hw' := hw'.symm; subst hw'; rw [HQ.out])
        | (go_at_call 11
           have hnx := HN4.out
           have WO := turn_some kd wd pf' D d D' d' m zs ks cc w6.drew HNL.out hm HC14.out.1 HC14.out.2 hnx.x.reads.drew hnx.y.reads.drew
           unfold nodeV at WO
           with_reducible refine WO.mono ?_
           clear WO
           rintro e wn ⟨kd9, wd9, pf9, Gn, gn, Hn, hn, m9, zs9, ks9, bv9, rfl, hm1, hm2, hb1⟩
           unfold nodeV
           have hb2 : Below w6.heap.size w6 wn := ⟨hb1.os, hb1.tape, hb1.output, hb1.size, hb1.block⟩
           have hbn : Below w6.heap.size w6 wn := hb2
           have hh1 : wn.heap[q]? = some (.cells #[.int .i64 kd, .int .u64 wd, .string pf', .slice D m d, .slice D' m d'] 28 (0, 0)) := (heap_below hbn (lt_of_heap HN4.out.box)).trans HN4.out.box
           have r0 := cell_of hh1 0
           have r1 := cell_of hh1 1
           have r2 := cell_of hh1 2
           have r3 := cell_of hh1 3
           have r4 := cell_of hh1 4
           have NW : NX (B3) wn.heap.size kd9 wd9 pf9 Gn gn Hn hn m9 zs9 ks9 _ := NX.new (kd := kd9) (wd := wd9) (pf := pf9) HLB.out hbn.size hm1 hm2
           have BZ := hbn.alloc hbn.size (.cells #[.int .i64 kd9, .int .u64 wd9, .string pf9, .slice Gn m9 gn, .slice Hn m9 hn] 28)
           obtain ⟨wz, hwz⟩ : ∃ wz, wn.alloc (.cells #[.int .i64 kd9, .int .u64 wd9, .string pf9, .slice Gn m9 gn, .slice Hn m9 hn] 28) = wz := ⟨_, rfl⟩
           rw [hwz] at NW BZ
           obtain ⟨qn, hq⟩ : ∃ qn, wn.heap.size = qn := ⟨_, rfl⟩
           rw [hq] at NW
           have HWZ := Lib.hid hwz
           have HQE := Lib.hid hq
           have HNW := Lib.hid NW
           have HBZ := Lib.hid BZ
           clear hwz hq NW BZ hm1 hm2 hb1 hb2 hbn hh1 hnx)
        | (go_at_call 11
           have hnx := HN4.out.keep HAL.out
           have WO := turn_some kd wd pf' D d D' d' m zs ks cc (w6.alloc (.cells #[.int .i64 0, .int .u64 0, .string ⟨#[]⟩, .slice none 0 0, .slice none 0 0] 28)).drew HNL.out hm HC14.out.1 HC14.out.2 hnx.x.reads.drew hnx.y.reads.drew
           unfold nodeV at WO
           with_reducible refine WO.mono ?_
           clear WO
           rintro e wn ⟨kd9, wd9, pf9, Gn, gn, Hn, hn, m9, zs9, ks9, bv9, rfl, hm1, hm2, hb1⟩
           unfold nodeV
           have hb2 : Below (w6.alloc (.cells #[.int .i64 0, .int .u64 0, .string ⟨#[]⟩, .slice none 0 0, .slice none 0 0] 28)).heap.size (w6.alloc (.cells #[.int .i64 0, .int .u64 0, .string ⟨#[]⟩, .slice none 0 0, .slice none 0 0] 28)) wn := ⟨hb1.os, hb1.tape, hb1.output, hb1.size, hb1.block⟩
           have hbn : Below w6.heap.size w6 wn := HAL.out.trans (hb2.mono (by rw [HAS.out]; omega))
           have hh1 : wn.heap[q]? = some (.cells #[.int .i64 kd, .int .u64 wd, .string pf', .slice D m d, .slice D' m d'] 28 (0, 0)) := (heap_below hbn (lt_of_heap HN4.out.box)).trans HN4.out.box
           have r0 := cell_of hh1 0
           have r1 := cell_of hh1 1
           have r2 := cell_of hh1 2
           have r3 := cell_of hh1 3
           have r4 := cell_of hh1 4
           have hq1 : wn.heap[w6.heap.size]? = some (.cells #[.int .i64 0, .int .u64 0, .string ⟨#[]⟩, .slice none 0 0, .slice none 0 0] 28 (0, 0)) := (heap_below hb2 (by rw [HAS.out]; omega)).trans HAQ.out
           have HQ1 := Lib.hid hq1
           have s0 := cell_of hq1 0
           have f0 := frozen_of hq1 0
           have s1 := cell_of hq1 1
           have f1 := frozen_of hq1 1
           have s2 := cell_of hq1 2
           have f2 := frozen_of hq1 2
           have s3 := cell_of hq1 3
           have f3 := frozen_of hq1 3
           have s4 := cell_of hq1 4
           have f4 := frozen_of hq1 4
           have hne : q ≠ w6.heap.size := by have := lt_of_heap HN4.out.box; omega
           have ht1 : (((((wn.setCell ⟨w6.heap.size, 0, none⟩ (.int .i64 kd9)).setCell ⟨w6.heap.size, 1, none⟩ (.int .u64 wd9)).setCell ⟨w6.heap.size, 2, none⟩ (.string pf9)).setCell ⟨w6.heap.size, 3, none⟩ (.slice Gn m9 gn)).setCell ⟨w6.heap.size, 4, none⟩ (.slice Hn m9 hn)).heap[q]? = some (.cells #[.int .i64 kd, .int .u64 wd, .string pf', .slice D m d, .slice D' m d'] 28 (0, 0)) := heap_far hne (heap_far hne (heap_far hne (heap_far hne (heap_far hne hh1))))
           have t0 := cell_of ht1 0
           have t1 := cell_of ht1 1
           have t2 := cell_of ht1 2
           have t3 := cell_of ht1 3
           have t4 := cell_of ht1 4
           have NW : NX (B3) w6.heap.size kd9 wd9 pf9 Gn gn Hn hn m9 zs9 ks9 (put5 wn w6.heap.size kd9 wd9 pf9 Gn gn Hn hn m9) := NX.old (B := B3) (kd := kd9) (wd := wd9) (pf := pf9) HQ1.out HLB.out (by show B3 ≤ (w6.alloc (.cells #[.int .i64 0, .int .u64 0, .string ⟨#[]⟩, .slice none 0 0, .slice none 0 0] 28)).heap.size; rw [HAS.out]; have := HLB.out; omega) hm1 hm2
           have BZ := put5_below (b := w6.heap.size) (kd := kd9) (wd := wd9) (pf := pf9) (G := Gn) (g := gn) (G' := Hn) (g' := hn) (m := m9) hbn (Nat.le_refl _)
           clear ht1 hne hq1
           obtain ⟨wz, hwz⟩ : ∃ wz, put5 wn w6.heap.size kd9 wd9 pf9 Gn gn Hn hn m9 = wz := ⟨_, rfl⟩
           rw [hwz] at NW BZ
           unfold put5 at hwz
           obtain ⟨qn, hq⟩ : ∃ qn, w6.heap.size = qn := ⟨_, rfl⟩
           rw [hq] at NW
           have HWZ := Lib.hid hwz
           have HQE := Lib.hid hq
           have HNW := Lib.hid NW
           have HBZ := Lib.hid BZ
           clear hwz hq NW BZ hm1 hm2 hb1 hb2 hbn hh1 hnx))
    all_goals
      rw [HWZ.out, HQE.out]
      go_wp2
      go_meet
      exact ⟨qn, rfl, Lib.hid ⟨kd9, wd9, pf9, Gn, gn, Hn, hn, m9, zs9, ks9, HNW.out, HBZ.out⟩⟩
  obtain ⟨qz, rfl, HG⟩ := hcut
  obtain ⟨kz, wz9, pz, Gz, gz, Hz, hz, mz, zz, yz, hnz, hbz⟩ := HG.out
  rename World => w7
  have HN5 := Lib.hid (HN4.out.keep hbz)
  have HX3 := Lib.hid (HX2.out.keep hbz)
  have HY3 := Lib.hid (HY2.out.keep hbz)
  have HZ3 := Lib.hid hnz
  have HT7 : Hid (Below w3.heap.size w3 w7) := Lib.hid (HT6.out.trans (hbz.mono HT6.out.size))
  have HZ0 := Lib.hid (fun g (hg : (Value.slice Gz mz gz).ownBlock = some g) => (hnz.x.lt g hg))
  have HZ0' := Lib.hid (fun g (hg : (Value.slice Hz mz hz).ownBlock = some g) => (hnz.y.lt g hg))
  have HS67 : Hid (w6.heap.size ≤ w7.heap.size) := Lib.hid hbz.size
  have a0 := cell_of HX3.out.box 0
  have a1 := cell_of HX3.out.box 1
  have a2 := cell_of HX3.out.box 2
  have a3 := cell_of HX3.out.box 3
  have a4 := cell_of HX3.out.box 4
  have b0 := cell_of HY3.out.box 0
  have b1 := cell_of HY3.out.box 1
  have b2 := cell_of HY3.out.box 2
  have b3 := cell_of HY3.out.box 3
  have b4 := cell_of HY3.out.box 4
  have c0 := cell_of HZ3.out.box 0
  have c1 := cell_of HZ3.out.box 1
  have c2 := cell_of HZ3.out.box 2
  have c3 := cell_of HZ3.out.box 3
  have c4 := cell_of HZ3.out.box 4
  clear HN4 HX2 HY2 HB6 hnz hbz HG
  go_upto_block 0 with (fail)
  obtain ⟨w8, hw8⟩ : ∃ w8, w7.alloc (.cells #[.int .i64 kx, .int .u64 wx, .string px, .slice Gx mx gx, .slice Hx mx hx, .int .i64 ky, .int .u64 wy, .string py, .slice Gy my gy, .slice Hy my hy, .int .i64 kz, .int .u64 wz9, .string pz, .slice Gz mz gz, .slice Hz mz hz] 28) = w8 := ⟨_, rfl⟩
  obtain ⟨gT, hgT⟩ : ∃ gT, w7.heap.size = gT := ⟨_, rfl⟩
  have HAP : Hid (Apart6 gT [(5, Value.slice Gx mx gx, mx), (3, Value.slice Hx mx hx, mx), (5, Value.slice Gy my gy, my), (3, Value.slice Hy my hy, my), (5, Value.slice Gz mz gz, mz), (3, Value.slice Hz mz hz, mz)]) := Lib.hid (by
    rw [← hgT]
    exact apart6_of (P1 := w4.heap.size) (P2 := w6.heap.size) (fun g hg => (HX0.out g hg).2) (fun g hg => (HX0'.out g hg).2) (fun g hg => ⟨HYL.out g hg, HY0.out g hg⟩) (fun g hg => ⟨HYL'.out g hg, HY0'.out g hg⟩)
      (fun g hg => ⟨by have := (HZ0.out g hg).1; have := HB3E.out; omega, (HZ0.out g hg).2⟩) (fun g hg => ⟨by have := (HZ0'.out g hg).1; have := HB3E.out; omega, (HZ0'.out g hg).2⟩) HS46.out HS67.out
      (fun g hg hg' => Mid.apart HX3.out.x HX3.out.y hg hg' rfl) (fun g hg hg' => Mid.apart HY3.out.x HY3.out.y hg hg' rfl) (fun g hg hg' => Mid.apart HZ3.out.x HZ3.out.y hg hg' rfl))
  have HSX : Hid (Six w3.heap.size gT #[.int .i64 kx, .int .u64 wx, .string px, .slice Gx mx gx, .slice Hx mx hx, .int .i64 ky, .int .u64 wy, .string py, .slice Gy my gy, .slice Hy my hy, .int .i64 kz, .int .u64 wz9, .string pz, .slice Gz mz gz, .slice Hz mz hz] 28 [(5, Value.slice Gx mx gx, mx), (3, Value.slice Hx mx hx, mx), (5, Value.slice Gy my gy, my), (3, Value.slice Hy my hy, my), (5, Value.slice Gz mz gz, mz), (3, Value.slice Hz mz hz, mz)] w3 w8) := Lib.hid (by
    refine ⟨by rw [← hw8]; exact HT7.out.alloc HT7.out.size _, by rw [← hw8, ← hgT]; exact heap_alloc_new _ _, fun r hr => ?_⟩
    have al : ∀ {t : TypeId} {v : Value} {k : Nat} {l : List Value} {B : Nat}, Mid w7 B t 1 v k l → (∀ g, v.ownBlock = some g → w3.heap.size ≤ g) → ∃ xs, Mid w8 w3.heap.size t 1 v k xs := fun h1 h2 => ⟨_, by rw [← hw8]; exact (h1.rebase h2).same fun g hg => heap_alloc_old _ _ (h1.lt g hg).2⟩
    have h34 := HBB1.out.size
    have h46 := HS46.out
    simp only [List.mem_cons, List.not_mem_nil, or_false] at hr
    rcases hr with rfl | rfl | rfl | rfl | rfl | rfl
    · exact al HX3.out.x (fun g hg => by have := (HX0.out g hg).1; have := HBE.out; omega)
    · exact al HX3.out.y (fun g hg => by have := (HX0'.out g hg).1; have := HBE.out; omega)
    · exact al HY3.out.x (fun g hg => by have := HYL.out g hg; omega)
    · exact al HY3.out.y (fun g hg => by have := HYL'.out g hg; omega)
    · exact al HZ3.out.x (fun g hg => by have := (HZ0.out g hg).1; have := HB3E.out; omega)
    · exact al HZ3.out.y (fun g hg => by have := (HZ0'.out g hg).1; have := HB3E.out; omega))
  rw [hw8, hgT]
  clear hw8 hgT a0 a1 a2 a3 a4 b0 b1 b2 b3 b4 c0 c1 c2 c3 c4
  clear HX0 HX0' HY0 HY0' HYL HYL' HZ0 HZ0' HX3 HY3 HZ3 HN5 HT7 HT6 HBB1 HS67 HS46 HB3E HBLE hw1
  go_wp2
  go_loopw [59] (fun i wr => ∃ j : Nat, i = .int .i64 j ∧ j ≤ 3 ∧ Hid (Six w3.heap.size gT #[.int .i64 kx, .int .u64 wx, .string px, .slice Gx mx gx, .slice Hx mx hx, .int .i64 ky, .int .u64 wy, .string py, .slice Gy my gy, .slice Hy my hy, .int .i64 kz, .int .u64 wz9, .string pz, .slice Gz mz gz, .slice Hz mz hz] 28 [(5, Value.slice Gx mx gx, mx), (3, Value.slice Hx mx hx, mx), (5, Value.slice Gy my gy, my), (3, Value.slice Hy my hy, my), (5, Value.slice Gz mz gz, mz), (3, Value.slice Hz mz hz, mz)] w3 wr)) (fun i _ => 3 - (intOf i).toNat)
  case atStart => exact ⟨0, rfl, by omega, HSX⟩
  case round =>
    clear HSX
    obtain ⟨j, rfl, hj, H⟩ := hrel
    by_cases hlt : j < 3
    · rcases (show j = 0 ∨ j = 1 ∨ j = 2 by omega) with rfl | rfl | rfl
      · have q0 := cell_of H.out.tab 0
        have q1 := cell_of H.out.tab 1
        have q2 := cell_of H.out.tab 2
        have q3 := cell_of H.out.tab 3
        have q4 := cell_of H.out.tab 4
        go_upto_block 2 with (fail)
        obtain ⟨wq, hwq⟩ : ∃ wq, wr.alloc (.cells #[.int .i64 kx, .int .u64 wx, .string px, .slice Gx mx gx, .slice Hx mx hx] 28) = wq := ⟨_, rfl⟩
        obtain ⟨gb, hgb⟩ : ∃ gb, wr.heap.size = gb := ⟨_, rfl⟩
        have HS1 : Hid (Six w3.heap.size gT #[.int .i64 kx, .int .u64 wx, .string px, .slice Gx mx gx, .slice Hx mx hx, .int .i64 ky, .int .u64 wy, .string py, .slice Gy my gy, .slice Hy my hy, .int .i64 kz, .int .u64 wz9, .string pz, .slice Gz mz gz, .slice Hz mz hz] 28 [(5, Value.slice Gx mx gx, mx), (3, Value.slice Hx mx hx, mx), (5, Value.slice Gy my gy, my), (3, Value.slice Hy my hy, my), (5, Value.slice Gz mz gz, mz), (3, Value.slice Hz mz hz, mz)] w3 wq ∧ wq.heap[gb]? = some (.cells #[.int .i64 kx, .int .u64 wx, .string px, .slice Gx mx gx, .slice Hx mx hx] 28 (0, 0))) := Lib.hid ⟨by rw [← hwq]; exact H.out.alloc H.out.bel.size _, by rw [← hwq, ← hgb]; exact heap_alloc_new _ _⟩
        have HGB : Hid (gT < gb) := Lib.hid (by rw [← hgb]; exact lt_of_heap H.out.tab)
        rw [hwq, hgb]
        clear hwq hgb q0 q1 q2 q3 q4 H
        go_wp2
        go_loopw [19, 66] (fun _ i w2_ => ∃ j : Nat, i = .int .i64 j ∧ j ≤ mx ∧ Hid (Six w3.heap.size gT #[.int .i64 kx, .int .u64 wx, .string px, .slice Gx mx gx, .slice Hx mx hx, .int .i64 ky, .int .u64 wy, .string py, .slice Gy my gy, .slice Hy my hy, .int .i64 kz, .int .u64 wz9, .string pz, .slice Gz mz gz, .slice Hz mz hz] 28 [(5, Value.slice Gx mx gx, mx), (3, Value.slice Hx mx hx, mx), (5, Value.slice Gy my gy, my), (3, Value.slice Hy my hy, my), (5, Value.slice Gz mz gz, mz), (3, Value.slice Hz mz hz, mz)] w3 w2_ ∧ w2_.heap[gb]? = some (.cells #[.int .i64 kx, .int .u64 wx, .string px, .slice Gx mx gx, .slice Hx mx hx] 28 (0, 0)))) (fun _ i _ => mx - (intOf i).toNat)
        case atStart => exact ⟨0, rfl, Nat.zero_le _, HS1⟩
        case round =>
          rename World => wv
          obtain ⟨j, rfl, hj, H⟩ := hrel
          have q3 := cell_of H.out.2 3
          by_cases hlt2 : j < mx
          · obtain ⟨L, hm⟩ := H.out.1.rows (5, Value.slice Gx mx gx, mx) (by simp)
            have hll : L.length = mx := by have h1 : L.length = mx * 1 := hm.1; omega
            replace hm : Mid wv w3.heap.size 5 1 (.slice Gx mx gx) mx L := hm
            obtain ⟨gg, og, eX⟩ := hm.some_of (by omega)
            have hgg := (HAP.out (5, Value.slice Gx mx gx, mx) (by simp) gg (by rw [eX]; rfl)).1
            have hin : (5, Value.slice (some ⟨gg, og, none⟩) mx gx, mx) ∈ ([(5, Value.slice Gx mx gx, mx), (3, Value.slice Hx mx hx, mx), (5, Value.slice Gy my gy, my), (3, Value.slice Hy my hy, my), (5, Value.slice Gz mz gz, mz), (3, Value.slice Hz mz hz, mz)] : List Rw) := by rw [← eX]; simp
            rw [eX] at hm q3
            have z0 := hm.cells j L[j] (List.getElem?_eq_getElem (by omega))
            have z1 := hm.warm (og + j)
            have hjb : (j : Int) < 9223372036854775807 := by have := hm.caps; unfold maxLen at this; omega
            have HN : Hid (Six w3.heap.size gT #[.int .i64 kx, .int .u64 wx, .string px, .slice Gx mx gx, .slice Hx mx hx, .int .i64 ky, .int .u64 wy, .string py, .slice Gy my gy, .slice Hy my hy, .int .i64 kz, .int .u64 wz9, .string pz, .slice Gz mz gz, .slice Hz mz hz] 28 [(5, Value.slice Gx mx gx, mx), (3, Value.slice Hx mx hx, mx), (5, Value.slice Gy my gy, my), (3, Value.slice Hy my hy, my), (5, Value.slice Gz mz gz, mz), (3, Value.slice Hz mz hz, mz)] w3 (wv.setCell ⟨gg, og + j, none⟩ (.int .u8 0)) ∧ (wv.setCell ⟨gg, og + j, none⟩ (.int .u8 0)).heap[gb]? = some (.cells #[.int .i64 kx, .int .u64 wx, .string px, .slice Gx mx gx, .slice Hx mx hx] 28 (0, 0))) := Lib.hid ⟨H.out.1.put HAP.out hin hlt2 _, heap_far (by show gb ≠ gg; have := HGB.out; omega) H.out.2⟩
            generalize L[j] = u0 at z0
            have hj1 : (j : Int) < mx := by omega
            clear hm hll eX hin hgg
            go_wp2
            go_roundw
            case rel => exact ⟨j + 1, by go_num, by omega, HN⟩
            case measure => simp only [intOf]; omega
          · have hj3 : ¬ (j : Int) < mx := by omega
            have q4 := cell_of H.out.2 4
            go_wp2
            go_loopw [20, 77] (fun _ i w2_ => ∃ j : Nat, i = .int .i64 j ∧ j ≤ mx ∧ Hid (Six w3.heap.size gT #[.int .i64 kx, .int .u64 wx, .string px, .slice Gx mx gx, .slice Hx mx hx, .int .i64 ky, .int .u64 wy, .string py, .slice Gy my gy, .slice Hy my hy, .int .i64 kz, .int .u64 wz9, .string pz, .slice Gz mz gz, .slice Hz mz hz] 28 [(5, Value.slice Gx mx gx, mx), (3, Value.slice Hx mx hx, mx), (5, Value.slice Gy my gy, my), (3, Value.slice Hy my hy, my), (5, Value.slice Gz mz gz, mz), (3, Value.slice Hz mz hz, mz)] w3 w2_ ∧ w2_.heap[gb]? = some (.cells #[.int .i64 kx, .int .u64 wx, .string px, .slice Gx mx gx, .slice Hx mx hx] 28 (0, 0)))) (fun _ i _ => mx - (intOf i).toNat)
            case atStart => exact ⟨0, rfl, Nat.zero_le _, Lib.hid H.out⟩
            case round =>
              rename World => wv
              obtain ⟨j, rfl, hj, H⟩ := hrel
              have q4 := cell_of H.out.2 4
              by_cases hlt2 : j < mx
              · obtain ⟨L, hm⟩ := H.out.1.rows (3, Value.slice Hx mx hx, mx) (by simp)
                have hll : L.length = mx := by have h1 : L.length = mx * 1 := hm.1; omega
                replace hm : Mid wv w3.heap.size 3 1 (.slice Hx mx hx) mx L := hm
                obtain ⟨gg, og, eX⟩ := hm.some_of (by omega)
                have hgg := (HAP.out (3, Value.slice Hx mx hx, mx) (by simp) gg (by rw [eX]; rfl)).1
                have hin : (3, Value.slice (some ⟨gg, og, none⟩) mx hx, mx) ∈ ([(5, Value.slice Gx mx gx, mx), (3, Value.slice Hx mx hx, mx), (5, Value.slice Gy my gy, my), (3, Value.slice Hy my hy, my), (5, Value.slice Gz mz gz, mz), (3, Value.slice Hz mz hz, mz)] : List Rw) := by rw [← eX]; simp
                rw [eX] at hm q4
                have z0 := hm.cells j L[j] (List.getElem?_eq_getElem (by omega))
                have z1 := hm.warm (og + j)
                have hjb : (j : Int) < 9223372036854775807 := by have := hm.caps; unfold maxLen at this; omega
                have HN : Hid (Six w3.heap.size gT #[.int .i64 kx, .int .u64 wx, .string px, .slice Gx mx gx, .slice Hx mx hx, .int .i64 ky, .int .u64 wy, .string py, .slice Gy my gy, .slice Hy my hy, .int .i64 kz, .int .u64 wz9, .string pz, .slice Gz mz gz, .slice Hz mz hz] 28 [(5, Value.slice Gx mx gx, mx), (3, Value.slice Hx mx hx, mx), (5, Value.slice Gy my gy, my), (3, Value.slice Hy my hy, my), (5, Value.slice Gz mz gz, mz), (3, Value.slice Hz mz hz, mz)] w3 (wv.setCell ⟨gg, og + j, none⟩ (.int .i64 (-1))) ∧ (wv.setCell ⟨gg, og + j, none⟩ (.int .i64 (-1))).heap[gb]? = some (.cells #[.int .i64 kx, .int .u64 wx, .string px, .slice Gx mx gx, .slice Hx mx hx] 28 (0, 0))) := Lib.hid ⟨H.out.1.put HAP.out hin hlt2 _, heap_far (by show gb ≠ gg; have := HGB.out; omega) H.out.2⟩
                generalize L[j] = u0 at z0
                have hj1 : (j : Int) < mx := by omega
                clear hm hll eX hin hgg
                go_wp2
                go_roundw
                case rel => exact ⟨j + 1, by go_num, by omega, HN⟩
                case measure => simp only [intOf]; omega
              · have hj3 : ¬ (j : Int) < mx := by omega
                go_wp2
                go_roundw
                case rel => exact ⟨1, by simp, by omega, Lib.hid H.out.1⟩
                case measure => simp [intOf]
      · have q0 := cell_of H.out.tab 5
        have q1 := cell_of H.out.tab 6
        have q2 := cell_of H.out.tab 7
        have q3 := cell_of H.out.tab 8
        have q4 := cell_of H.out.tab 9
        go_upto_block 2 with (fail)
        obtain ⟨wq, hwq⟩ : ∃ wq, wr.alloc (.cells #[.int .i64 ky, .int .u64 wy, .string py, .slice Gy my gy, .slice Hy my hy] 28) = wq := ⟨_, rfl⟩
        obtain ⟨gb, hgb⟩ : ∃ gb, wr.heap.size = gb := ⟨_, rfl⟩
        have HS1 : Hid (Six w3.heap.size gT #[.int .i64 kx, .int .u64 wx, .string px, .slice Gx mx gx, .slice Hx mx hx, .int .i64 ky, .int .u64 wy, .string py, .slice Gy my gy, .slice Hy my hy, .int .i64 kz, .int .u64 wz9, .string pz, .slice Gz mz gz, .slice Hz mz hz] 28 [(5, Value.slice Gx mx gx, mx), (3, Value.slice Hx mx hx, mx), (5, Value.slice Gy my gy, my), (3, Value.slice Hy my hy, my), (5, Value.slice Gz mz gz, mz), (3, Value.slice Hz mz hz, mz)] w3 wq ∧ wq.heap[gb]? = some (.cells #[.int .i64 ky, .int .u64 wy, .string py, .slice Gy my gy, .slice Hy my hy] 28 (0, 0))) := Lib.hid ⟨by rw [← hwq]; exact H.out.alloc H.out.bel.size _, by rw [← hwq, ← hgb]; exact heap_alloc_new _ _⟩
        have HGB : Hid (gT < gb) := Lib.hid (by rw [← hgb]; exact lt_of_heap H.out.tab)
        rw [hwq, hgb]
        clear hwq hgb q0 q1 q2 q3 q4 H
        go_wp2
        go_loopw [19, 66] (fun _ i w2_ => ∃ j : Nat, i = .int .i64 j ∧ j ≤ my ∧ Hid (Six w3.heap.size gT #[.int .i64 kx, .int .u64 wx, .string px, .slice Gx mx gx, .slice Hx mx hx, .int .i64 ky, .int .u64 wy, .string py, .slice Gy my gy, .slice Hy my hy, .int .i64 kz, .int .u64 wz9, .string pz, .slice Gz mz gz, .slice Hz mz hz] 28 [(5, Value.slice Gx mx gx, mx), (3, Value.slice Hx mx hx, mx), (5, Value.slice Gy my gy, my), (3, Value.slice Hy my hy, my), (5, Value.slice Gz mz gz, mz), (3, Value.slice Hz mz hz, mz)] w3 w2_ ∧ w2_.heap[gb]? = some (.cells #[.int .i64 ky, .int .u64 wy, .string py, .slice Gy my gy, .slice Hy my hy] 28 (0, 0)))) (fun _ i _ => my - (intOf i).toNat)
        case atStart => exact ⟨0, rfl, Nat.zero_le _, HS1⟩
        case round =>
          rename World => wv
          obtain ⟨j, rfl, hj, H⟩ := hrel
          have q3 := cell_of H.out.2 3
          by_cases hlt2 : j < my
          · obtain ⟨L, hm⟩ := H.out.1.rows (5, Value.slice Gy my gy, my) (by simp)
            have hll : L.length = my := by have h1 : L.length = my * 1 := hm.1; omega
            replace hm : Mid wv w3.heap.size 5 1 (.slice Gy my gy) my L := hm
            obtain ⟨gg, og, eX⟩ := hm.some_of (by omega)
            have hgg := (HAP.out (5, Value.slice Gy my gy, my) (by simp) gg (by rw [eX]; rfl)).1
            have hin : (5, Value.slice (some ⟨gg, og, none⟩) my gy, my) ∈ ([(5, Value.slice Gx mx gx, mx), (3, Value.slice Hx mx hx, mx), (5, Value.slice Gy my gy, my), (3, Value.slice Hy my hy, my), (5, Value.slice Gz mz gz, mz), (3, Value.slice Hz mz hz, mz)] : List Rw) := by rw [← eX]; simp
            rw [eX] at hm q3
            have z0 := hm.cells j L[j] (List.getElem?_eq_getElem (by omega))
            have z1 := hm.warm (og + j)
            have hjb : (j : Int) < 9223372036854775807 := by have := hm.caps; unfold maxLen at this; omega
            have HN : Hid (Six w3.heap.size gT #[.int .i64 kx, .int .u64 wx, .string px, .slice Gx mx gx, .slice Hx mx hx, .int .i64 ky, .int .u64 wy, .string py, .slice Gy my gy, .slice Hy my hy, .int .i64 kz, .int .u64 wz9, .string pz, .slice Gz mz gz, .slice Hz mz hz] 28 [(5, Value.slice Gx mx gx, mx), (3, Value.slice Hx mx hx, mx), (5, Value.slice Gy my gy, my), (3, Value.slice Hy my hy, my), (5, Value.slice Gz mz gz, mz), (3, Value.slice Hz mz hz, mz)] w3 (wv.setCell ⟨gg, og + j, none⟩ (.int .u8 0)) ∧ (wv.setCell ⟨gg, og + j, none⟩ (.int .u8 0)).heap[gb]? = some (.cells #[.int .i64 ky, .int .u64 wy, .string py, .slice Gy my gy, .slice Hy my hy] 28 (0, 0))) := Lib.hid ⟨H.out.1.put HAP.out hin hlt2 _, heap_far (by show gb ≠ gg; have := HGB.out; omega) H.out.2⟩
            generalize L[j] = u0 at z0
            have hj1 : (j : Int) < my := by omega
            clear hm hll eX hin hgg
            go_wp2
            go_roundw
            case rel => exact ⟨j + 1, by go_num, by omega, HN⟩
            case measure => simp only [intOf]; omega
          · have hj3 : ¬ (j : Int) < my := by omega
            have q4 := cell_of H.out.2 4
            go_wp2
            go_loopw [20, 77] (fun _ i w2_ => ∃ j : Nat, i = .int .i64 j ∧ j ≤ my ∧ Hid (Six w3.heap.size gT #[.int .i64 kx, .int .u64 wx, .string px, .slice Gx mx gx, .slice Hx mx hx, .int .i64 ky, .int .u64 wy, .string py, .slice Gy my gy, .slice Hy my hy, .int .i64 kz, .int .u64 wz9, .string pz, .slice Gz mz gz, .slice Hz mz hz] 28 [(5, Value.slice Gx mx gx, mx), (3, Value.slice Hx mx hx, mx), (5, Value.slice Gy my gy, my), (3, Value.slice Hy my hy, my), (5, Value.slice Gz mz gz, mz), (3, Value.slice Hz mz hz, mz)] w3 w2_ ∧ w2_.heap[gb]? = some (.cells #[.int .i64 ky, .int .u64 wy, .string py, .slice Gy my gy, .slice Hy my hy] 28 (0, 0)))) (fun _ i _ => my - (intOf i).toNat)
            case atStart => exact ⟨0, rfl, Nat.zero_le _, Lib.hid H.out⟩
            case round =>
              rename World => wv
              obtain ⟨j, rfl, hj, H⟩ := hrel
              have q4 := cell_of H.out.2 4
              by_cases hlt2 : j < my
              · obtain ⟨L, hm⟩ := H.out.1.rows (3, Value.slice Hy my hy, my) (by simp)
                have hll : L.length = my := by have h1 : L.length = my * 1 := hm.1; omega
                replace hm : Mid wv w3.heap.size 3 1 (.slice Hy my hy) my L := hm
                obtain ⟨gg, og, eX⟩ := hm.some_of (by omega)
                have hgg := (HAP.out (3, Value.slice Hy my hy, my) (by simp) gg (by rw [eX]; rfl)).1
                have hin : (3, Value.slice (some ⟨gg, og, none⟩) my hy, my) ∈ ([(5, Value.slice Gx mx gx, mx), (3, Value.slice Hx mx hx, mx), (5, Value.slice Gy my gy, my), (3, Value.slice Hy my hy, my), (5, Value.slice Gz mz gz, mz), (3, Value.slice Hz mz hz, mz)] : List Rw) := by rw [← eX]; simp
                rw [eX] at hm q4
                have z0 := hm.cells j L[j] (List.getElem?_eq_getElem (by omega))
                have z1 := hm.warm (og + j)
                have hjb : (j : Int) < 9223372036854775807 := by have := hm.caps; unfold maxLen at this; omega
                have HN : Hid (Six w3.heap.size gT #[.int .i64 kx, .int .u64 wx, .string px, .slice Gx mx gx, .slice Hx mx hx, .int .i64 ky, .int .u64 wy, .string py, .slice Gy my gy, .slice Hy my hy, .int .i64 kz, .int .u64 wz9, .string pz, .slice Gz mz gz, .slice Hz mz hz] 28 [(5, Value.slice Gx mx gx, mx), (3, Value.slice Hx mx hx, mx), (5, Value.slice Gy my gy, my), (3, Value.slice Hy my hy, my), (5, Value.slice Gz mz gz, mz), (3, Value.slice Hz mz hz, mz)] w3 (wv.setCell ⟨gg, og + j, none⟩ (.int .i64 (-1))) ∧ (wv.setCell ⟨gg, og + j, none⟩ (.int .i64 (-1))).heap[gb]? = some (.cells #[.int .i64 ky, .int .u64 wy, .string py, .slice Gy my gy, .slice Hy my hy] 28 (0, 0))) := Lib.hid ⟨H.out.1.put HAP.out hin hlt2 _, heap_far (by show gb ≠ gg; have := HGB.out; omega) H.out.2⟩
                generalize L[j] = u0 at z0
                have hj1 : (j : Int) < my := by omega
                clear hm hll eX hin hgg
                go_wp2
                go_roundw
                case rel => exact ⟨j + 1, by go_num, by omega, HN⟩
                case measure => simp only [intOf]; omega
              · have hj3 : ¬ (j : Int) < my := by omega
                go_wp2
                go_roundw
                case rel => exact ⟨2, by simp, by omega, Lib.hid H.out.1⟩
                case measure => simp [intOf]
      · have q0 := cell_of H.out.tab 10
        have q1 := cell_of H.out.tab 11
        have q2 := cell_of H.out.tab 12
        have q3 := cell_of H.out.tab 13
        have q4 := cell_of H.out.tab 14
        go_upto_block 2 with (fail)
        obtain ⟨wq, hwq⟩ : ∃ wq, wr.alloc (.cells #[.int .i64 kz, .int .u64 wz9, .string pz, .slice Gz mz gz, .slice Hz mz hz] 28) = wq := ⟨_, rfl⟩
        obtain ⟨gb, hgb⟩ : ∃ gb, wr.heap.size = gb := ⟨_, rfl⟩
        have HS1 : Hid (Six w3.heap.size gT #[.int .i64 kx, .int .u64 wx, .string px, .slice Gx mx gx, .slice Hx mx hx, .int .i64 ky, .int .u64 wy, .string py, .slice Gy my gy, .slice Hy my hy, .int .i64 kz, .int .u64 wz9, .string pz, .slice Gz mz gz, .slice Hz mz hz] 28 [(5, Value.slice Gx mx gx, mx), (3, Value.slice Hx mx hx, mx), (5, Value.slice Gy my gy, my), (3, Value.slice Hy my hy, my), (5, Value.slice Gz mz gz, mz), (3, Value.slice Hz mz hz, mz)] w3 wq ∧ wq.heap[gb]? = some (.cells #[.int .i64 kz, .int .u64 wz9, .string pz, .slice Gz mz gz, .slice Hz mz hz] 28 (0, 0))) := Lib.hid ⟨by rw [← hwq]; exact H.out.alloc H.out.bel.size _, by rw [← hwq, ← hgb]; exact heap_alloc_new _ _⟩
        have HGB : Hid (gT < gb) := Lib.hid (by rw [← hgb]; exact lt_of_heap H.out.tab)
        rw [hwq, hgb]
        clear hwq hgb q0 q1 q2 q3 q4 H
        go_wp2
        go_loopw [19, 66] (fun _ i w2_ => ∃ j : Nat, i = .int .i64 j ∧ j ≤ mz ∧ Hid (Six w3.heap.size gT #[.int .i64 kx, .int .u64 wx, .string px, .slice Gx mx gx, .slice Hx mx hx, .int .i64 ky, .int .u64 wy, .string py, .slice Gy my gy, .slice Hy my hy, .int .i64 kz, .int .u64 wz9, .string pz, .slice Gz mz gz, .slice Hz mz hz] 28 [(5, Value.slice Gx mx gx, mx), (3, Value.slice Hx mx hx, mx), (5, Value.slice Gy my gy, my), (3, Value.slice Hy my hy, my), (5, Value.slice Gz mz gz, mz), (3, Value.slice Hz mz hz, mz)] w3 w2_ ∧ w2_.heap[gb]? = some (.cells #[.int .i64 kz, .int .u64 wz9, .string pz, .slice Gz mz gz, .slice Hz mz hz] 28 (0, 0)))) (fun _ i _ => mz - (intOf i).toNat)
        case atStart => exact ⟨0, rfl, Nat.zero_le _, HS1⟩
        case round =>
          rename World => wv
          obtain ⟨j, rfl, hj, H⟩ := hrel
          have q3 := cell_of H.out.2 3
          by_cases hlt2 : j < mz
          · obtain ⟨L, hm⟩ := H.out.1.rows (5, Value.slice Gz mz gz, mz) (by simp)
            have hll : L.length = mz := by have h1 : L.length = mz * 1 := hm.1; omega
            replace hm : Mid wv w3.heap.size 5 1 (.slice Gz mz gz) mz L := hm
            obtain ⟨gg, og, eX⟩ := hm.some_of (by omega)
            have hgg := (HAP.out (5, Value.slice Gz mz gz, mz) (by simp) gg (by rw [eX]; rfl)).1
            have hin : (5, Value.slice (some ⟨gg, og, none⟩) mz gz, mz) ∈ ([(5, Value.slice Gx mx gx, mx), (3, Value.slice Hx mx hx, mx), (5, Value.slice Gy my gy, my), (3, Value.slice Hy my hy, my), (5, Value.slice Gz mz gz, mz), (3, Value.slice Hz mz hz, mz)] : List Rw) := by rw [← eX]; simp
            rw [eX] at hm q3
            have z0 := hm.cells j L[j] (List.getElem?_eq_getElem (by omega))
            have z1 := hm.warm (og + j)
            have hjb : (j : Int) < 9223372036854775807 := by have := hm.caps; unfold maxLen at this; omega
            have HN : Hid (Six w3.heap.size gT #[.int .i64 kx, .int .u64 wx, .string px, .slice Gx mx gx, .slice Hx mx hx, .int .i64 ky, .int .u64 wy, .string py, .slice Gy my gy, .slice Hy my hy, .int .i64 kz, .int .u64 wz9, .string pz, .slice Gz mz gz, .slice Hz mz hz] 28 [(5, Value.slice Gx mx gx, mx), (3, Value.slice Hx mx hx, mx), (5, Value.slice Gy my gy, my), (3, Value.slice Hy my hy, my), (5, Value.slice Gz mz gz, mz), (3, Value.slice Hz mz hz, mz)] w3 (wv.setCell ⟨gg, og + j, none⟩ (.int .u8 0)) ∧ (wv.setCell ⟨gg, og + j, none⟩ (.int .u8 0)).heap[gb]? = some (.cells #[.int .i64 kz, .int .u64 wz9, .string pz, .slice Gz mz gz, .slice Hz mz hz] 28 (0, 0))) := Lib.hid ⟨H.out.1.put HAP.out hin hlt2 _, heap_far (by show gb ≠ gg; have := HGB.out; omega) H.out.2⟩
            generalize L[j] = u0 at z0
            have hj1 : (j : Int) < mz := by omega
            clear hm hll eX hin hgg
            go_wp2
            go_roundw
            case rel => exact ⟨j + 1, by go_num, by omega, HN⟩
            case measure => simp only [intOf]; omega
          · have hj3 : ¬ (j : Int) < mz := by omega
            have q4 := cell_of H.out.2 4
            go_wp2
            go_loopw [20, 77] (fun _ i w2_ => ∃ j : Nat, i = .int .i64 j ∧ j ≤ mz ∧ Hid (Six w3.heap.size gT #[.int .i64 kx, .int .u64 wx, .string px, .slice Gx mx gx, .slice Hx mx hx, .int .i64 ky, .int .u64 wy, .string py, .slice Gy my gy, .slice Hy my hy, .int .i64 kz, .int .u64 wz9, .string pz, .slice Gz mz gz, .slice Hz mz hz] 28 [(5, Value.slice Gx mx gx, mx), (3, Value.slice Hx mx hx, mx), (5, Value.slice Gy my gy, my), (3, Value.slice Hy my hy, my), (5, Value.slice Gz mz gz, mz), (3, Value.slice Hz mz hz, mz)] w3 w2_ ∧ w2_.heap[gb]? = some (.cells #[.int .i64 kz, .int .u64 wz9, .string pz, .slice Gz mz gz, .slice Hz mz hz] 28 (0, 0)))) (fun _ i _ => mz - (intOf i).toNat)
            case atStart => exact ⟨0, rfl, Nat.zero_le _, Lib.hid H.out⟩
            case round =>
              rename World => wv
              obtain ⟨j, rfl, hj, H⟩ := hrel
              have q4 := cell_of H.out.2 4
              by_cases hlt2 : j < mz
              · obtain ⟨L, hm⟩ := H.out.1.rows (3, Value.slice Hz mz hz, mz) (by simp)
                have hll : L.length = mz := by have h1 : L.length = mz * 1 := hm.1; omega
                replace hm : Mid wv w3.heap.size 3 1 (.slice Hz mz hz) mz L := hm
                obtain ⟨gg, og, eX⟩ := hm.some_of (by omega)
                have hgg := (HAP.out (3, Value.slice Hz mz hz, mz) (by simp) gg (by rw [eX]; rfl)).1
                have hin : (3, Value.slice (some ⟨gg, og, none⟩) mz hz, mz) ∈ ([(5, Value.slice Gx mx gx, mx), (3, Value.slice Hx mx hx, mx), (5, Value.slice Gy my gy, my), (3, Value.slice Hy my hy, my), (5, Value.slice Gz mz gz, mz), (3, Value.slice Hz mz hz, mz)] : List Rw) := by rw [← eX]; simp
                rw [eX] at hm q4
                have z0 := hm.cells j L[j] (List.getElem?_eq_getElem (by omega))
                have z1 := hm.warm (og + j)
                have hjb : (j : Int) < 9223372036854775807 := by have := hm.caps; unfold maxLen at this; omega
                have HN : Hid (Six w3.heap.size gT #[.int .i64 kx, .int .u64 wx, .string px, .slice Gx mx gx, .slice Hx mx hx, .int .i64 ky, .int .u64 wy, .string py, .slice Gy my gy, .slice Hy my hy, .int .i64 kz, .int .u64 wz9, .string pz, .slice Gz mz gz, .slice Hz mz hz] 28 [(5, Value.slice Gx mx gx, mx), (3, Value.slice Hx mx hx, mx), (5, Value.slice Gy my gy, my), (3, Value.slice Hy my hy, my), (5, Value.slice Gz mz gz, mz), (3, Value.slice Hz mz hz, mz)] w3 (wv.setCell ⟨gg, og + j, none⟩ (.int .i64 (-1))) ∧ (wv.setCell ⟨gg, og + j, none⟩ (.int .i64 (-1))).heap[gb]? = some (.cells #[.int .i64 kz, .int .u64 wz9, .string pz, .slice Gz mz gz, .slice Hz mz hz] 28 (0, 0))) := Lib.hid ⟨H.out.1.put HAP.out hin hlt2 _, heap_far (by show gb ≠ gg; have := HGB.out; omega) H.out.2⟩
                generalize L[j] = u0 at z0
                have hj1 : (j : Int) < mz := by omega
                clear hm hll eX hin hgg
                go_wp2
                go_roundw
                case rel => exact ⟨j + 1, by go_num, by omega, HN⟩
                case measure => simp only [intOf]; omega
              · have hj3 : ¬ (j : Int) < mz := by omega
                go_wp2
                go_roundw
                case rel => exact ⟨3, by simp, by omega, Lib.hid H.out.1⟩
                case measure => simp [intOf]
    · obtain rfl : j = 3 := by omega
      have hj9 : ¬ ((3 : Nat) : Int) < 3 := by omega
      have HNF := Lib.hid (HN2.out.keep H.out.bel)
      have HBF0 := Lib.hid (HB2.out.trans (H.out.bel.mono HB2.out.size))
      have HM9F := Lib.hid (HM9.out.same fun g hg => heap_below H.out.bel (HM9.out.lt g hg).2)
      have HM10F := Lib.hid (HM10.out.same fun g hg => heap_below H.out.bel (HM10.out.lt g hg).2)
      have HWEF : Hid (WB wr ge (encW kd wd pf' zs ks m)) := Lib.hid ((heap_below H.out.bel (Blk.lt HWE2.out)).trans HWE2.out)
      have HEL := Lib.hid (encW_len HNL.out hk1 hkd4 HKL.out.1)
      have HSZ : Hid (0 < sizeN kd ∧ sizeN kd ≤ 264) := Lib.hid (by rcases (show kd = 1 ∨ kd = 2 ∨ kd = 3 ∨ kd = 4 by omega) with e | e | e | e <;> rw [e] <;> decide)
      have hsz0 : (0 : Int) < (sizeN kd : Int) := by have := HSZ.out; omega
      have hsz1 : (sizeN kd : Int) > 0 := by have := HSZ.out; omega
      have e3 := cell_of HNF.out.box 3
      have e4 := cell_of HNF.out.box 4
      have e0 := cell_of HNF.out.box 0
      have e1 := cell_of HNF.out.box 1
      have e2 := cell_of HNF.out.box 2
      clear hlt hj H HAP HM9 HM10 HWE2 HN2 HB2
      go_wp2_with (first
        | (go_at_call 15; refine (same_u8 wr.heap.size D A9 m m d c9 zs zs _ HNF.out.x.reads HM9F.out.reads (by omega) (by omega)).mono ?_
           rintro e wa ⟨rfl, na, rfl⟩
           rw [decide_eq_true rfl])
        | (go_at_call 16; refine (same_i64 wr.heap.size D' A10 m m d' c10 ks ks _ (HNF.out.y.reads.drewN na) (HM10F.out.reads.drewN na) (by omega) (by omega)).mono ?_
           rintro e wb_ ⟨rfl, nb, rfl⟩
           rw [decide_eq_true rfl])
        | (go_at_call 23; refine (enc_any kd wd pf' D d D' d' m zs ks _ HNL.out hk1 hkd4 HBYZ.out (HNF.out.x.reads.drewN _) (HNF.out.y.reads.drewN _)).mono ?_
           rintro e wc ⟨gf, rfl, hgf, hwf, hbf⟩
           have HBC : Hid (Below wr.heap.size wr wc) := Lib.hid ⟨hbf.os, hbf.tape, hbf.output, hbf.size, hbf.block⟩
           have HWF := Lib.hid hwf
           clear hgf hwf hbf)
        | (go_at_call 24; refine (same_any wc.heap.size (some ⟨gf, 0, none⟩) (some ⟨ge, 0, none⟩) (sizeN kd) (sizeN kd) (sizeN kd) (sizeN kd) (encW kd wd pf' zs ks m) (encW kd wd pf' zs ks m) wc (HWF.out.whole HEL.out) ((WB.whole ((heap_below HBC.out (Blk.lt HWEF.out)).trans HWEF.out : WB wc ge (encW kd wd pf' zs ks m)) HEL.out)) (by have := HSZ.out; omega) (by have := HSZ.out; omega)).mono ?_
           rintro e wd_ ⟨rfl, hbd⟩
           rw [eqB_true rfl]
           have HBD := Lib.hid (HBF0.out.trans ((HBC.out.trans (hbd.mono HBC.out.size)).mono HBF0.out.size))
           clear hbd)
        | (go_at_call 13; refine (runs_any _).mono ?_
           rintro e we ⟨rfl, hbe⟩
           have HBE9 := Lib.hid (HBD.out.trans (hbe.mono HBD.out.size))
           clear hbe)
        | fail)
      go_ret
      exact ⟨rfl, HBE9.out⟩
end Go.Proofs.Ytononinmjijhoaa
