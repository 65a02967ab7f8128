/-
  The laws of blocks at any ids and bytes; no condition beyond lengths that fit an int.
-/
import Derived.Test.YtoinanbpiemfoaaBk6
import Derived.Test.YtoinanbpiemfoaaBk8
import Derived.Test.YtoinanbpiemfoaaEvU
namespace Go.Proofs.Ytoinanbpiemfoaa
open Go.RowKit Go.WideShapes Go.ChangeShapes
set_option linter.all false
set_option maxRecDepth 1000000 in
theorem mixed' : Try.prog.follows .mixedOrders = true := by kernel_rfl
set_option maxRecDepth 1000000 in
theorem closed_any (f n : Nat) (w : World) (h : letI : Ev.Tok := ⟨fun _ => 0, fun _ => ByteArray.empty⟩; Ev.isTrue (@Ev.runF Ev.noSym Try.prog Ev.noOrc n (.fn f [] Ev.st0)) = true) : Calls Try.prog f #[] w fun e w' => e = .returned (.bool true) ∧ Below w.heap.size w w' := by
  letI : Ev.Tok := ⟨fun _ => 0, fun _ => ByteArray.empty⟩
  letI : Ev.Sym := Ev.noSym
  exact @Ev.calls_true_args _ Ev.noSym Try.prog _ (Ev.noSym_ok _) Ev.noOrc_ok mixed' n f [] (by simp) (Ev.fast h) w
set_option maxRecDepth 1000000 in
theorem runs_any (w : World) : Calls Try.prog 18 #[] w fun e w' => e = .returned (.bool true) ∧ Below w.heap.size w w' := closed_any 18 400000 w (by kernel_rfl)
/-- The bytes of a block, or none. -/
def encX (xs : List Int) : List Nat := if rightI xs = true then encGo 0 (xs.map Int.toNat) else []
theorem toNat_cast (l : List Nat) : (l.map Nat.cast : List Int).map Int.toNat = l := by
  induction l with
  | nil => rfl
  | cons x r ih => simp only [List.map_cons, Int.toNat_natCast, ih]
theorem encX_of {xs : List Int} {bs : List Nat} (h : (rightI xs = false ∧ bs = []) ∨ ∃ l, xs = l.map Nat.cast ∧ rightN l = true ∧ bs = encGo 0 l) : bs = encX xs := by
  unfold encX
  rcases h with ⟨h1, h2⟩ | ⟨l, rfl, h2, h3⟩
  · rw [if_neg (by rw [h1]; simp), h2]
  · rw [if_pos (by rw [rightI_cast]; exact h2), toNat_cast, h3]
theorem EncPost.at_ {xs : List Int} {w w' : World} {e : Ending} (h : EncPost xs w e w') : ∃ A c, e = .returned (.slice A (encX xs).length c) ∧ Below w.heap.size w w' ∧ Mid w' w.heap.size 5 1 (.slice A (encX xs).length c) (encX xs).length (ks .u8 (nb (encX xs))) ∧ (encX xs).length ≤ 100 := by
  obtain ⟨v, bs, h1, h2, h3, h4, h5, h6⟩ := h
  obtain rfl := encX_of h6
  obtain ⟨A, c, rfl⟩ := h3.form
  exact ⟨A, c, h1, h2, h3, h4⟩
def codeO (o : Option (List Nat)) : Int := if o.isSome = true then 0 else 5
theorem DecPost.at_ {o : Option (List Nat)} {w w' : World} {e : Ending} (h : DecPost o w e w') : ∃ A c, e = .returned (.tuple #[.slice A (o.getD []).length c, .int .i64 (codeO o)]) ∧ Below w.heap.size w w' ∧ Mid w' w.heap.size 3 1 (.slice A (o.getD []).length c) (o.getD []).length (ks .i64 (nb (o.getD []))) := by
  obtain ⟨v, l, code, h1, h2, h3, h4⟩ := h
  rcases h4 with ⟨rfl, rfl⟩ | ⟨rfl, rfl, rfl⟩
  · obtain ⟨A, c, rfl⟩ := h3.form
    exact ⟨A, c, h1, h2, h3⟩
  · obtain ⟨A, c, rfl⟩ := h3.form
    exact ⟨A, c, h1, h2, h3⟩
theorem dec_len {bs : List Nat} {l : List Nat} (h : decP bs = some l) : l.length ≤ 16 := by
  have := ((decP_iff bs l).1 h).1
  unfold rightN at this
  rw [Bool.and_eq_true, decide_eq_true_eq] at this
  exact this.1.2
theorem decG_len (bs : List Nat) : ((decP bs).getD []).length ≤ 16 := by
  cases h : decP bs with
  | none => simp
  | some l => exact dec_len h
theorem Reads.take {κ : IntKind} {w : World} {A : Option Addr} {n : Nat} {xs : List Int} (h : Reads w w.heap.size 1 A n (ks κ xs)) {k : Nat} (hk : k ≤ n) : Reads w w.heap.size 1 A k (ks κ (xs.take k)) := by
  refine ⟨by simp [ks, h.kl]; omega, fun hp => ?_⟩
  obtain ⟨ad, e, hb, hc⟩ := h.2 (by omega)
  refine ⟨ad, e, hb, fun j u hu => hc j u ?_⟩
  unfold ks at hu ⊢
  rw [List.map_take, List.getElem?_take] at hu
  split at hu
  · exact hu
  · cases hu
theorem nb_take (l : List Nat) (k : Nat) : nb (l.take k) = (nb l).take k := by unfold nb; rw [List.map_take]
set_option maxRecDepth 100000 in
set_option maxHeartbeats 3200000 in
theorem tells00 (A B : Option Addr) (n0 n c m0 m d : Nat) (xs : List Int) (bs : List Nat) (w : World) (hx : Reads w w.heap.size 1 A n (ks .i64 xs)) (hy : Reads w w.heap.size 1 B m (ks .u8 (nb bs))) (hb : ∀ b ∈ bs, b < 256)
    (hn : n0 ≤ 30 ∧ n = n0) (hm : m0 ≤ 120 ∧ m = m0) (hc : n0 ≤ c) (hd : m0 ≤ d) :
    Calls Try.prog 3 #[.slice A n0 c, .slice B m0 d] w fun e w' => e = .returned (.bool true) ∧ Below w.heap.size w w' := by
  have LX : Hid (xs.length = n) := Lib.hid hx.kl
  have LY : Hid ((nb bs).length = m) := Lib.hid hy.kl
  have HB := Lib.hid hb
  have HX := Lib.hid hx
  have HY := Lib.hid hy
  clear hb hx hy
  obtain ⟨hn1, rfl⟩ := hn
  have hn2 : ¬ (30 : Int) < n := by omega
  obtain ⟨hm1, rfl⟩ := hm
  have hm2 : ¬ (120 : Int) < m := by omega
  have hn9 : n ≤ 30 := by omega
  have hm9 : m ≤ 120 := by omega
  have HD := Lib.hid (dec_same bs HB.out)
  have HG := Lib.hid (decG_len bs)
  skip
  generalize hcd : codeO (decP bs) = cd
  have HCD := Lib.hid hcd
  clear hcd
  go_enter Try.func3, Try.ntmps3
  go_wp2_with (first
    | (go_at_call 6; refine (roomy_i A n c xs (-3) _ HX.out (by omega)).mono ?_; rintro e w1 ⟨rfl, hw1, hb1⟩; unfold sl; rw [LX.out]; have HW1 := Lib.hid hw1; have B1 := Lib.hid hb1; clear hw1 hb1)
    | (go_at_call 7; refine (roomy_b B m d (nb bs) 9 _ (HY.out.on B1.out) (by omega)).mono ?_; rintro e w2 ⟨rfl, hw2, hb2⟩; unfold sl; rw [LY.out]; have HW2 := Lib.hid hw2; have B2 := Lib.hid hb2; clear hw2 hb2)
    | (go_at_call 8; refine (decode_any _ m _ bs _ (room_reads HW2.out (Blk.lt HW2.out) LY.out) HB.out (by omega) (by omega)).mono ?_; rintro e w3 hq; obtain ⟨A3, c3, rfl, hb3, hm3⟩ := hq.at_; rw [HCD.out]; have M3 := Lib.hid hm3; have B3 := Lib.hid hb3; clear hm3 hb3)
    | (go_at_call 9; refine (rdecode_any B m d bs _ ((HY.out.on (after B1.out B2.out)).on B3.out) HB.out (by omega) (by omega)).mono ?_; rintro e w4 hq; rw [← HD.out] at hq; obtain ⟨A4, c4, rfl, hb4, hm4⟩ := hq.at_; rw [HCD.out]; have M4 := Lib.hid hm4; have B4 := Lib.hid hb4; clear hm4 hb4)
    | (go_at_call 10; refine (right_any w4.heap.size _ n _ xs _ (room_reads (HW1.out.on (after (after B2.out B3.out) B4.out)) (Blk.lt (HW1.out.on (after (after B2.out B3.out) B4.out))) LX.out) (by omega)).mono ?_; rintro e w' ⟨rfl, hw'⟩; rw [hw']; clear hw')
    | (go_at_call 11; refine (rids_any w4.heap.size A n c xs _ (HX.out.on (after (after (after B1.out B2.out) B3.out) B4.out)) (by omega)).mono ?_; rintro e w' ⟨rfl, hw'⟩; rw [hw']; clear hw')
    | (go_at_call 13; refine (encode_any _ n _ xs _ (room_reads (HW1.out.on (after (after B2.out B3.out) B4.out)) (Blk.lt (HW1.out.on (after (after B2.out B3.out) B4.out))) LX.out) (by omega)).mono ?_; rintro e w5 hq; obtain ⟨A5, c5, rfl, hb5, hm5, hl5⟩ := hq.at_; have M5 := Lib.hid hm5; have B5 := Lib.hid hb5; clear hm5 hb5)
    | (go_at_call 14; refine (rencode_any A n c xs _ (HX.out.on (after (after (after (after B1.out B2.out) B3.out) B4.out) B5.out)) (by omega)).mono ?_; rintro e w6 hq; obtain ⟨A6, c6, rfl, hb6, hm6, hl6⟩ := hq.at_; have M6 := Lib.hid hm6; have B6 := Lib.hid hb6; clear hm6 hb6)
    | (go_at_call 12; refine (same_b w6.heap.size _ _ _ _ _ _ _ _ _ (M5.out.reads.on B6.out) M6.out.reads (by omega) (by omega)).mono ?_; rintro e w7 ⟨rfl, hb7⟩; rw [eqB_self]; have B7 := Lib.hid hb7; clear hb7)
    | (go_at_call 15; refine (same_i w7.heap.size _ _ _ _ _ _ _ _ _ (M3.out.reads.on (after (after (after B4.out B5.out) B6.out) B7.out)) (M4.out.reads.on (after (after B5.out B6.out) B7.out)) (by have := HG.out; omega) (by have := HG.out; omega)).mono ?_; rintro e w8 ⟨rfl, hb8⟩; rw [eqB_self]; have B8 := Lib.hid hb8; clear hb8)
    | (go_at_call 16; refine (intact_i A n c w.heap.size xs (-3) _ (HX.out.on (after (after (after (after (after (after (after B1.out B2.out) B3.out) B4.out) B5.out) B6.out) B7.out) B8.out)) (Blk.lt (HW1.out.on (after (after (after (after (after (after B2.out B3.out) B4.out) B5.out) B6.out) B7.out) B8.out))) (HW1.out.on (after (after (after (after (after (after B2.out B3.out) B4.out) B5.out) B6.out) B7.out) B8.out)) (by omega)).mono ?_; rintro e w9 ⟨rfl, hb9⟩; have B9 := Lib.hid hb9; clear hb9)
    | (go_at_call 17; refine (intact_b B m d w1.heap.size (nb bs) 9 _ (HY.out.on (after (after (after (after (after (after (after (after B1.out B2.out) B3.out) B4.out) B5.out) B6.out) B7.out) B8.out) B9.out)) (Blk.lt (HW2.out.on (after (after (after (after (after (after B3.out B4.out) B5.out) B6.out) B7.out) B8.out) B9.out))) (HW2.out.on (after (after (after (after (after (after B3.out B4.out) B5.out) B6.out) B7.out) B8.out) B9.out)) (by omega)).mono ?_; rintro e wa ⟨rfl, hba⟩; have Ba := Lib.hid hba; clear hba)
    | (go_at_call 18; refine (runs_any _).mono ?_; rintro e wb ⟨rfl, hbb⟩; have Bb := Lib.hid hbb; clear hbb)
    | fail)
  go_ret
  exact ⟨rfl, after (after (after (after (after (after (after (after (after (after B1.out B2.out) B3.out) B4.out) B5.out) B6.out) B7.out) B8.out) B9.out) Ba.out) Bb.out⟩
set_option maxRecDepth 100000 in
set_option maxHeartbeats 3200000 in
theorem tells01 (A B : Option Addr) (n0 n c m0 m d : Nat) (xs : List Int) (bs : List Nat) (w : World) (hx : Reads w w.heap.size 1 A n (ks .i64 xs)) (hy : Reads w w.heap.size 1 B m (ks .u8 (nb bs))) (hb : ∀ b ∈ bs, b < 256)
    (hn : n0 ≤ 30 ∧ n = n0) (hm : 120 < m0 ∧ m = 120) (hc : n0 ≤ c) (hd : m0 ≤ d) :
    Calls Try.prog 3 #[.slice A n0 c, .slice B m0 d] w fun e w' => e = .returned (.bool true) ∧ Below w.heap.size w w' := by
  have LX : Hid (xs.length = n) := Lib.hid hx.kl
  have LY : Hid ((nb bs).length = m) := Lib.hid hy.kl
  have HB := Lib.hid hb
  have HX := Lib.hid hx
  have HY := Lib.hid hy
  clear hb hx hy
  obtain ⟨hn1, rfl⟩ := hn
  have hn2 : ¬ (30 : Int) < n := by omega
  obtain ⟨hm1, rfl⟩ := hm
  have hm2 : (120 : Int) < m0 := by omega
  have hm3 : (120 : Int) ≤ d := by omega
  have hn9 : n ≤ 30 := by omega
  have hm9 : 120 ≤ 120 := by omega
  have HD := Lib.hid (dec_same bs HB.out)
  have HG := Lib.hid (decG_len bs)
  skip
  generalize hcd : codeO (decP bs) = cd
  have HCD := Lib.hid hcd
  clear hcd
  go_enter Try.func3, Try.ntmps3
  go_wp2_with (first
    | (go_at_call 6; refine (roomy_i A n c xs (-3) _ HX.out (by omega)).mono ?_; rintro e w1 ⟨rfl, hw1, hb1⟩; unfold sl; rw [LX.out]; have HW1 := Lib.hid hw1; have B1 := Lib.hid hb1; clear hw1 hb1)
    | (go_at_call 7; refine (roomy_b B 120 d (nb bs) 9 _ (HY.out.on B1.out) (by omega)).mono ?_; rintro e w2 ⟨rfl, hw2, hb2⟩; unfold sl; rw [LY.out]; have HW2 := Lib.hid hw2; have B2 := Lib.hid hb2; clear hw2 hb2)
    | (go_at_call 8; refine (decode_any _ 120 _ bs _ (room_reads HW2.out (Blk.lt HW2.out) LY.out) HB.out (by omega) (by omega)).mono ?_; rintro e w3 hq; obtain ⟨A3, c3, rfl, hb3, hm3⟩ := hq.at_; rw [HCD.out]; have M3 := Lib.hid hm3; have B3 := Lib.hid hb3; clear hm3 hb3)
    | (go_at_call 9; refine (rdecode_any B 120 d bs _ ((HY.out.on (after B1.out B2.out)).on B3.out) HB.out (by omega) (by omega)).mono ?_; rintro e w4 hq; rw [← HD.out] at hq; obtain ⟨A4, c4, rfl, hb4, hm4⟩ := hq.at_; rw [HCD.out]; have M4 := Lib.hid hm4; have B4 := Lib.hid hb4; clear hm4 hb4)
    | (go_at_call 10; refine (right_any w4.heap.size _ n _ xs _ (room_reads (HW1.out.on (after (after B2.out B3.out) B4.out)) (Blk.lt (HW1.out.on (after (after B2.out B3.out) B4.out))) LX.out) (by omega)).mono ?_; rintro e w' ⟨rfl, hw'⟩; rw [hw']; clear hw')
    | (go_at_call 11; refine (rids_any w4.heap.size A n c xs _ (HX.out.on (after (after (after B1.out B2.out) B3.out) B4.out)) (by omega)).mono ?_; rintro e w' ⟨rfl, hw'⟩; rw [hw']; clear hw')
    | (go_at_call 13; refine (encode_any _ n _ xs _ (room_reads (HW1.out.on (after (after B2.out B3.out) B4.out)) (Blk.lt (HW1.out.on (after (after B2.out B3.out) B4.out))) LX.out) (by omega)).mono ?_; rintro e w5 hq; obtain ⟨A5, c5, rfl, hb5, hm5, hl5⟩ := hq.at_; have M5 := Lib.hid hm5; have B5 := Lib.hid hb5; clear hm5 hb5)
    | (go_at_call 14; refine (rencode_any A n c xs _ (HX.out.on (after (after (after (after B1.out B2.out) B3.out) B4.out) B5.out)) (by omega)).mono ?_; rintro e w6 hq; obtain ⟨A6, c6, rfl, hb6, hm6, hl6⟩ := hq.at_; have M6 := Lib.hid hm6; have B6 := Lib.hid hb6; clear hm6 hb6)
    | (go_at_call 12; refine (same_b w6.heap.size _ _ _ _ _ _ _ _ _ (M5.out.reads.on B6.out) M6.out.reads (by omega) (by omega)).mono ?_; rintro e w7 ⟨rfl, hb7⟩; rw [eqB_self]; have B7 := Lib.hid hb7; clear hb7)
    | (go_at_call 15; refine (same_i w7.heap.size _ _ _ _ _ _ _ _ _ (M3.out.reads.on (after (after (after B4.out B5.out) B6.out) B7.out)) (M4.out.reads.on (after (after B5.out B6.out) B7.out)) (by have := HG.out; omega) (by have := HG.out; omega)).mono ?_; rintro e w8 ⟨rfl, hb8⟩; rw [eqB_self]; have B8 := Lib.hid hb8; clear hb8)
    | (go_at_call 16; refine (intact_i A n c w.heap.size xs (-3) _ (HX.out.on (after (after (after (after (after (after (after B1.out B2.out) B3.out) B4.out) B5.out) B6.out) B7.out) B8.out)) (Blk.lt (HW1.out.on (after (after (after (after (after (after B2.out B3.out) B4.out) B5.out) B6.out) B7.out) B8.out))) (HW1.out.on (after (after (after (after (after (after B2.out B3.out) B4.out) B5.out) B6.out) B7.out) B8.out)) (by omega)).mono ?_; rintro e w9 ⟨rfl, hb9⟩; have B9 := Lib.hid hb9; clear hb9)
    | (go_at_call 17; refine (intact_b B 120 d w1.heap.size (nb bs) 9 _ (HY.out.on (after (after (after (after (after (after (after (after B1.out B2.out) B3.out) B4.out) B5.out) B6.out) B7.out) B8.out) B9.out)) (Blk.lt (HW2.out.on (after (after (after (after (after (after B3.out B4.out) B5.out) B6.out) B7.out) B8.out) B9.out))) (HW2.out.on (after (after (after (after (after (after B3.out B4.out) B5.out) B6.out) B7.out) B8.out) B9.out)) (by omega)).mono ?_; rintro e wa ⟨rfl, hba⟩; have Ba := Lib.hid hba; clear hba)
    | (go_at_call 18; refine (runs_any _).mono ?_; rintro e wb ⟨rfl, hbb⟩; have Bb := Lib.hid hbb; clear hbb)
    | fail)
  go_ret
  exact ⟨rfl, after (after (after (after (after (after (after (after (after (after B1.out B2.out) B3.out) B4.out) B5.out) B6.out) B7.out) B8.out) B9.out) Ba.out) Bb.out⟩
set_option maxRecDepth 100000 in
set_option maxHeartbeats 3200000 in
theorem tells10 (A B : Option Addr) (n0 n c m0 m d : Nat) (xs : List Int) (bs : List Nat) (w : World) (hx : Reads w w.heap.size 1 A n (ks .i64 xs)) (hy : Reads w w.heap.size 1 B m (ks .u8 (nb bs))) (hb : ∀ b ∈ bs, b < 256)
    (hn : 30 < n0 ∧ n = 30) (hm : m0 ≤ 120 ∧ m = m0) (hc : n0 ≤ c) (hd : m0 ≤ d) :
    Calls Try.prog 3 #[.slice A n0 c, .slice B m0 d] w fun e w' => e = .returned (.bool true) ∧ Below w.heap.size w w' := by
  have LX : Hid (xs.length = n) := Lib.hid hx.kl
  have LY : Hid ((nb bs).length = m) := Lib.hid hy.kl
  have HB := Lib.hid hb
  have HX := Lib.hid hx
  have HY := Lib.hid hy
  clear hb hx hy
  obtain ⟨hn1, rfl⟩ := hn
  have hn2 : (30 : Int) < n0 := by omega
  have hn3 : (30 : Int) ≤ c := by omega
  obtain ⟨hm1, rfl⟩ := hm
  have hm2 : ¬ (120 : Int) < m := by omega
  have hn9 : 30 ≤ 30 := by omega
  have hm9 : m ≤ 120 := by omega
  have HD := Lib.hid (dec_same bs HB.out)
  have HG := Lib.hid (decG_len bs)
  skip
  generalize hcd : codeO (decP bs) = cd
  have HCD := Lib.hid hcd
  clear hcd
  go_enter Try.func3, Try.ntmps3
  go_wp2_with (first
    | (go_at_call 6; refine (roomy_i A 30 c xs (-3) _ HX.out (by omega)).mono ?_; rintro e w1 ⟨rfl, hw1, hb1⟩; unfold sl; rw [LX.out]; have HW1 := Lib.hid hw1; have B1 := Lib.hid hb1; clear hw1 hb1)
    | (go_at_call 7; refine (roomy_b B m d (nb bs) 9 _ (HY.out.on B1.out) (by omega)).mono ?_; rintro e w2 ⟨rfl, hw2, hb2⟩; unfold sl; rw [LY.out]; have HW2 := Lib.hid hw2; have B2 := Lib.hid hb2; clear hw2 hb2)
    | (go_at_call 8; refine (decode_any _ m _ bs _ (room_reads HW2.out (Blk.lt HW2.out) LY.out) HB.out (by omega) (by omega)).mono ?_; rintro e w3 hq; obtain ⟨A3, c3, rfl, hb3, hm3⟩ := hq.at_; rw [HCD.out]; have M3 := Lib.hid hm3; have B3 := Lib.hid hb3; clear hm3 hb3)
    | (go_at_call 9; refine (rdecode_any B m d bs _ ((HY.out.on (after B1.out B2.out)).on B3.out) HB.out (by omega) (by omega)).mono ?_; rintro e w4 hq; rw [← HD.out] at hq; obtain ⟨A4, c4, rfl, hb4, hm4⟩ := hq.at_; rw [HCD.out]; have M4 := Lib.hid hm4; have B4 := Lib.hid hb4; clear hm4 hb4)
    | (go_at_call 10; refine (right_any w4.heap.size _ 30 _ xs _ (room_reads (HW1.out.on (after (after B2.out B3.out) B4.out)) (Blk.lt (HW1.out.on (after (after B2.out B3.out) B4.out))) LX.out) (by omega)).mono ?_; rintro e w' ⟨rfl, hw'⟩; rw [hw']; clear hw')
    | (go_at_call 11; refine (rids_any w4.heap.size A 30 c xs _ (HX.out.on (after (after (after B1.out B2.out) B3.out) B4.out)) (by omega)).mono ?_; rintro e w' ⟨rfl, hw'⟩; rw [hw']; clear hw')
    | (go_at_call 13; refine (encode_any _ 30 _ xs _ (room_reads (HW1.out.on (after (after B2.out B3.out) B4.out)) (Blk.lt (HW1.out.on (after (after B2.out B3.out) B4.out))) LX.out) (by omega)).mono ?_; rintro e w5 hq; obtain ⟨A5, c5, rfl, hb5, hm5, hl5⟩ := hq.at_; have M5 := Lib.hid hm5; have B5 := Lib.hid hb5; clear hm5 hb5)
    | (go_at_call 14; refine (rencode_any A 30 c xs _ (HX.out.on (after (after (after (after B1.out B2.out) B3.out) B4.out) B5.out)) (by omega)).mono ?_; rintro e w6 hq; obtain ⟨A6, c6, rfl, hb6, hm6, hl6⟩ := hq.at_; have M6 := Lib.hid hm6; have B6 := Lib.hid hb6; clear hm6 hb6)
    | (go_at_call 12; refine (same_b w6.heap.size _ _ _ _ _ _ _ _ _ (M5.out.reads.on B6.out) M6.out.reads (by omega) (by omega)).mono ?_; rintro e w7 ⟨rfl, hb7⟩; rw [eqB_self]; have B7 := Lib.hid hb7; clear hb7)
    | (go_at_call 15; refine (same_i w7.heap.size _ _ _ _ _ _ _ _ _ (M3.out.reads.on (after (after (after B4.out B5.out) B6.out) B7.out)) (M4.out.reads.on (after (after B5.out B6.out) B7.out)) (by have := HG.out; omega) (by have := HG.out; omega)).mono ?_; rintro e w8 ⟨rfl, hb8⟩; rw [eqB_self]; have B8 := Lib.hid hb8; clear hb8)
    | (go_at_call 16; refine (intact_i A 30 c w.heap.size xs (-3) _ (HX.out.on (after (after (after (after (after (after (after B1.out B2.out) B3.out) B4.out) B5.out) B6.out) B7.out) B8.out)) (Blk.lt (HW1.out.on (after (after (after (after (after (after B2.out B3.out) B4.out) B5.out) B6.out) B7.out) B8.out))) (HW1.out.on (after (after (after (after (after (after B2.out B3.out) B4.out) B5.out) B6.out) B7.out) B8.out)) (by omega)).mono ?_; rintro e w9 ⟨rfl, hb9⟩; have B9 := Lib.hid hb9; clear hb9)
    | (go_at_call 17; refine (intact_b B m d w1.heap.size (nb bs) 9 _ (HY.out.on (after (after (after (after (after (after (after (after B1.out B2.out) B3.out) B4.out) B5.out) B6.out) B7.out) B8.out) B9.out)) (Blk.lt (HW2.out.on (after (after (after (after (after (after B3.out B4.out) B5.out) B6.out) B7.out) B8.out) B9.out))) (HW2.out.on (after (after (after (after (after (after B3.out B4.out) B5.out) B6.out) B7.out) B8.out) B9.out)) (by omega)).mono ?_; rintro e wa ⟨rfl, hba⟩; have Ba := Lib.hid hba; clear hba)
    | (go_at_call 18; refine (runs_any _).mono ?_; rintro e wb ⟨rfl, hbb⟩; have Bb := Lib.hid hbb; clear hbb)
    | fail)
  go_ret
  exact ⟨rfl, after (after (after (after (after (after (after (after (after (after B1.out B2.out) B3.out) B4.out) B5.out) B6.out) B7.out) B8.out) B9.out) Ba.out) Bb.out⟩
set_option maxRecDepth 100000 in
set_option maxHeartbeats 3200000 in
theorem tells11 (A B : Option Addr) (n0 n c m0 m d : Nat) (xs : List Int) (bs : List Nat) (w : World) (hx : Reads w w.heap.size 1 A n (ks .i64 xs)) (hy : Reads w w.heap.size 1 B m (ks .u8 (nb bs))) (hb : ∀ b ∈ bs, b < 256)
    (hn : 30 < n0 ∧ n = 30) (hm : 120 < m0 ∧ m = 120) (hc : n0 ≤ c) (hd : m0 ≤ d) :
    Calls Try.prog 3 #[.slice A n0 c, .slice B m0 d] w fun e w' => e = .returned (.bool true) ∧ Below w.heap.size w w' := by
  have LX : Hid (xs.length = n) := Lib.hid hx.kl
  have LY : Hid ((nb bs).length = m) := Lib.hid hy.kl
  have HB := Lib.hid hb
  have HX := Lib.hid hx
  have HY := Lib.hid hy
  clear hb hx hy
  obtain ⟨hn1, rfl⟩ := hn
  have hn2 : (30 : Int) < n0 := by omega
  have hn3 : (30 : Int) ≤ c := by omega
  obtain ⟨hm1, rfl⟩ := hm
  have hm2 : (120 : Int) < m0 := by omega
  have hm3 : (120 : Int) ≤ d := by omega
  have hn9 : 30 ≤ 30 := by omega
  have hm9 : 120 ≤ 120 := by omega
  have HD := Lib.hid (dec_same bs HB.out)
  have HG := Lib.hid (decG_len bs)
  skip
  generalize hcd : codeO (decP bs) = cd
  have HCD := Lib.hid hcd
  clear hcd
  go_enter Try.func3, Try.ntmps3
  go_wp2_with (first
    | (go_at_call 6; refine (roomy_i A 30 c xs (-3) _ HX.out (by omega)).mono ?_; rintro e w1 ⟨rfl, hw1, hb1⟩; unfold sl; rw [LX.out]; have HW1 := Lib.hid hw1; have B1 := Lib.hid hb1; clear hw1 hb1)
    | (go_at_call 7; refine (roomy_b B 120 d (nb bs) 9 _ (HY.out.on B1.out) (by omega)).mono ?_; rintro e w2 ⟨rfl, hw2, hb2⟩; unfold sl; rw [LY.out]; have HW2 := Lib.hid hw2; have B2 := Lib.hid hb2; clear hw2 hb2)
    | (go_at_call 8; refine (decode_any _ 120 _ bs _ (room_reads HW2.out (Blk.lt HW2.out) LY.out) HB.out (by omega) (by omega)).mono ?_; rintro e w3 hq; obtain ⟨A3, c3, rfl, hb3, hm3⟩ := hq.at_; rw [HCD.out]; have M3 := Lib.hid hm3; have B3 := Lib.hid hb3; clear hm3 hb3)
    | (go_at_call 9; refine (rdecode_any B 120 d bs _ ((HY.out.on (after B1.out B2.out)).on B3.out) HB.out (by omega) (by omega)).mono ?_; rintro e w4 hq; rw [← HD.out] at hq; obtain ⟨A4, c4, rfl, hb4, hm4⟩ := hq.at_; rw [HCD.out]; have M4 := Lib.hid hm4; have B4 := Lib.hid hb4; clear hm4 hb4)
    | (go_at_call 10; refine (right_any w4.heap.size _ 30 _ xs _ (room_reads (HW1.out.on (after (after B2.out B3.out) B4.out)) (Blk.lt (HW1.out.on (after (after B2.out B3.out) B4.out))) LX.out) (by omega)).mono ?_; rintro e w' ⟨rfl, hw'⟩; rw [hw']; clear hw')
    | (go_at_call 11; refine (rids_any w4.heap.size A 30 c xs _ (HX.out.on (after (after (after B1.out B2.out) B3.out) B4.out)) (by omega)).mono ?_; rintro e w' ⟨rfl, hw'⟩; rw [hw']; clear hw')
    | (go_at_call 13; refine (encode_any _ 30 _ xs _ (room_reads (HW1.out.on (after (after B2.out B3.out) B4.out)) (Blk.lt (HW1.out.on (after (after B2.out B3.out) B4.out))) LX.out) (by omega)).mono ?_; rintro e w5 hq; obtain ⟨A5, c5, rfl, hb5, hm5, hl5⟩ := hq.at_; have M5 := Lib.hid hm5; have B5 := Lib.hid hb5; clear hm5 hb5)
    | (go_at_call 14; refine (rencode_any A 30 c xs _ (HX.out.on (after (after (after (after B1.out B2.out) B3.out) B4.out) B5.out)) (by omega)).mono ?_; rintro e w6 hq; obtain ⟨A6, c6, rfl, hb6, hm6, hl6⟩ := hq.at_; have M6 := Lib.hid hm6; have B6 := Lib.hid hb6; clear hm6 hb6)
    | (go_at_call 12; refine (same_b w6.heap.size _ _ _ _ _ _ _ _ _ (M5.out.reads.on B6.out) M6.out.reads (by omega) (by omega)).mono ?_; rintro e w7 ⟨rfl, hb7⟩; rw [eqB_self]; have B7 := Lib.hid hb7; clear hb7)
    | (go_at_call 15; refine (same_i w7.heap.size _ _ _ _ _ _ _ _ _ (M3.out.reads.on (after (after (after B4.out B5.out) B6.out) B7.out)) (M4.out.reads.on (after (after B5.out B6.out) B7.out)) (by have := HG.out; omega) (by have := HG.out; omega)).mono ?_; rintro e w8 ⟨rfl, hb8⟩; rw [eqB_self]; have B8 := Lib.hid hb8; clear hb8)
    | (go_at_call 16; refine (intact_i A 30 c w.heap.size xs (-3) _ (HX.out.on (after (after (after (after (after (after (after B1.out B2.out) B3.out) B4.out) B5.out) B6.out) B7.out) B8.out)) (Blk.lt (HW1.out.on (after (after (after (after (after (after B2.out B3.out) B4.out) B5.out) B6.out) B7.out) B8.out))) (HW1.out.on (after (after (after (after (after (after B2.out B3.out) B4.out) B5.out) B6.out) B7.out) B8.out)) (by omega)).mono ?_; rintro e w9 ⟨rfl, hb9⟩; have B9 := Lib.hid hb9; clear hb9)
    | (go_at_call 17; refine (intact_b B 120 d w1.heap.size (nb bs) 9 _ (HY.out.on (after (after (after (after (after (after (after (after B1.out B2.out) B3.out) B4.out) B5.out) B6.out) B7.out) B8.out) B9.out)) (Blk.lt (HW2.out.on (after (after (after (after (after (after B3.out B4.out) B5.out) B6.out) B7.out) B8.out) B9.out))) (HW2.out.on (after (after (after (after (after (after B3.out B4.out) B5.out) B6.out) B7.out) B8.out) B9.out)) (by omega)).mono ?_; rintro e wa ⟨rfl, hba⟩; have Ba := Lib.hid hba; clear hba)
    | (go_at_call 18; refine (runs_any _).mono ?_; rintro e wb ⟨rfl, hbb⟩; have Bb := Lib.hid hbb; clear hbb)
    | fail)
  go_ret
  exact ⟨rfl, after (after (after (after (after (after (after (after (after (after B1.out B2.out) B3.out) B4.out) B5.out) B6.out) B7.out) B8.out) B9.out) Ba.out) Bb.out⟩
theorem tells_any (A B : Option Addr) (n c m d : Nat) (xs : List Int) (bs : List Nat) (w : World) (hx : Reads w w.heap.size 1 A n (ks .i64 xs)) (hy : Reads w w.heap.size 1 B m (ks .u8 (nb bs))) (hb : ∀ b ∈ bs, b < 256) (hc : n ≤ c) (hd : m ≤ d) :
    Calls Try.prog 3 #[.slice A n c, .slice B m d] w fun e w' => e = .returned (.bool true) ∧ Below w.heap.size w w' := by
  by_cases hn : 30 < n
  · by_cases hm : 120 < m
    · exact tells11 A B n 30 c m 120 d (xs.take 30) (bs.take 120) w (hx.take (by omega)) (by rw [nb_take]; exact hy.take (by omega)) (fun b h => hb b (List.mem_of_mem_take h)) ⟨hn, rfl⟩ ⟨hm, rfl⟩ hc hd
    · exact tells10 A B n 30 c m m d (xs.take 30) bs w (hx.take (by omega)) hy hb ⟨hn, rfl⟩ ⟨by omega, rfl⟩ hc hd
  · by_cases hm : 120 < m
    · exact tells01 A B n n c m 120 d xs (bs.take 120) w hx (by rw [nb_take]; exact hy.take (by omega)) (fun b h => hb b (List.mem_of_mem_take h)) ⟨by omega, rfl⟩ ⟨hm, rfl⟩ hc hd
    · exact tells00 A B n n c m m d xs bs w hx hy hb ⟨by omega, rfl⟩ ⟨by omega, rfl⟩ hc hd
end Go.Proofs.Ytoinanbpiemfoaa
