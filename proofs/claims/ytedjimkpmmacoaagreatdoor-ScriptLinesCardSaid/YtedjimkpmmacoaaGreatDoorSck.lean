/-
  ScriptLines at any numbers and any text; conditions: what the closed law says.
-/
import Derived.Test.YtedjimkpmmacoaaGreatDoorScj
import Derived.Test.YtedjimkpmmacoaaGreatDoorScc
namespace Go.Proofs.YtedjimkpmmacoaaGreatDoor
open Go.RowKit Go.WideShapes Go.ChangeShapes
set_option linter.all false
theorem tstr_size (n : Int) : (tstr n).size ≤ 4 := by
  have hk : (n % 256).toNat < 256 := by
    have h1 := Int.emod_nonneg n (show (256 : Int) ≠ 0 by decide)
    have h2 := Int.emod_lt_of_pos n (show (0 : Int) < 256 by decide)
    omega
  have hT := tl_ok hk
  unfold tstr
  rw [strOfNums_size]
  exact hT.le4
theorem conv_dg (c : Nat) (hc : c < 10) (W : World) : (convert 28 9 (.slice (some ⟨W.heap.size, 0, none⟩) 1 1)).run Tryz.prog (W.alloc (.cells #[.int .u8 (48 + (c : Int))] 5)) = .ok (.string (dg1 c)) (W.alloc (.cells #[.int .u8 (48 + (c : Int))] 5)) := by
  have h := run_convert_bytes_arg (P := Tryz.prog) (w := W.alloc (.cells #[.int .u8 (48 + (c : Int))] 5)) 28 5 Tryz.underlying28 Tryz.underlying5 W.heap.size 0 1 1 [48 + (c : Int)] rfl (fun i hi => by
    obtain rfl : i = 0 := by omega
    rw [cell_of_row _ W.heap.size _ _ 5 (0, 0) (heap_alloc_new W _)]; rfl) 9 Tryz.underlying9
  rw [h]
  congr 2
set_option maxRecDepth 100000 in
theorem field_op (x0 x1 x2 x3 x4 x5 x6 x7 x8 x9 : Value) (w : World) : (Instr.field 55 (.agg #[x0, x1, x2, x3, x4, x5, x6, x7, x8, x9]) 2).run Tryz.prog w = .ok (.agg #[x2, x3, x4, x5]) w := by
  unfold Instr.field
  simp [run_underlying Tryz.underlying55, asAgg, part, Tryz.sizeOf35, Tryz.isAgg35]
set_option maxRecDepth 100000 in
theorem field_kind (x0 x1 x2 x3 : Value) (w : World) : (Instr.field 35 (.agg #[x0, x1, x2, x3]) 0).run Tryz.prog w = .ok x0 w := by
  unfold Instr.field
  simp [run_underlying Tryz.underlying35, asAgg, part, Tryz.sizeOf3, Tryz.isAgg3]
theorem begS_ge (k : Nat) (t : ByteArray) (v : Nat) : 5 ≤ (begS k t v).size := by
  have e5 : (⟨#[32, 103, 101, 116, 32]⟩ : ByteArray).size = 5 := rfl
  have e6 : (⟨#[32, 112, 117, 116, 32]⟩ : ByteArray).size = 5 := rfl
  have e7 : (⟨#[32, 100, 114, 111, 112, 32]⟩ : ByteArray).size = 6 := rfl
  have e8 : (⟨#[32, 115, 99, 97, 110, 32]⟩ : ByteArray).size = 6 := rfl
  have e9 : (⟨#[32, 116, 105, 99, 107]⟩ : ByteArray).size = 5 := rfl
  have e1 : (⟨#[32]⟩ : ByteArray).size = 1 := rfl
  unfold begS
  split
  · rw [ByteArray.size_append]; omega
  · split
    · rw [ByteArray.size_append, ByteArray.size_append, ByteArray.size_append, dg1_size]; omega
    · split
      · rw [ByteArray.size_append]; omega
      · split
        · rw [ByteArray.size_append, ByteArray.size_append, ByteArray.size_append, dg1_size]; omega
        · omega
theorem done_eq (c v : Nat) : dg1 c ++ ⟨#[32, 100, 111, 110, 101]⟩ ++ sd1 v = dg1 c ++ ⟨#[32, 100, 111, 110, 101, 32]⟩ ++ dg1 v := by
  apply ByteArray.ext
  apply Array.ext'
  simp [dg1, sd1]
theorem toList_inj {a b : ByteArray} (h : a.toList = b.toList) : a = b := by
  have h2 : a.data.toList = b.data.toList := by
    have e : ∀ x : ByteArray, x.toList = x.data.toList := fun x => ByteArray.toList_eq x
    rw [← e, ← e]; exact h
  exact ByteArray.ext (Array.ext' h2)
theorem head_app (d b : ByteArray) (hd : d.size = 1) : (d ++ b).extract 0 1 = d := by
  apply ByteArray.ext
  apply Array.ext'
  have h1 : d.data.toList.length = 1 := hd
  simp
  rw [show 1 - d.size = 0 by omega, List.take_zero, List.append_nil, List.take_of_length_le (by omega)]
theorem app_inj (d a b : ByteArray) (h : d ++ a = d ++ b) : a = b := by
  apply ByteArray.ext
  apply Array.ext'
  have := congrArg (fun x : ByteArray => x.data.toList) h
  simpa using this
set_option maxRecDepth 1000000 in
set_option maxHeartbeats 3200000 in
theorem lines_any (hruns : ∀ W, Calls Tryz.prog 3 #[] W fun e w' => e = .returned (.bool true) ∧ Below W.heap.size W w') (a0 a1 a2 a3 : Int) (s : ByteArray) (w : World) : Calls Tryz.prog 7 #[.int .i64 a0, .int .i64 a1, .int .i64 a2, .int .i64 a3, .string s] w fun e w' => e = .returned (.bool true) ∧ Below w.heap.size w w' := by
  have HRUNS := Lib.hid hruns
  clear hruns
  obtain ⟨gf, hgf⟩ : ∃ gf : Int → Nat, ∀ k, withinV k 10 = (gf k : Nat) ∧ gf k < 10 := ⟨fun k => (withinV k 10).toNat, fun k => by
    have := withinV_in k 10 (by omega)
    exact ⟨by show _ = (((withinV k 10).toNat : Nat) : Int); omega, by show (withinV k 10).toNat < 10; omega⟩⟩
  obtain ⟨kf, hkf⟩ : ∃ kf : Int → Nat, ∀ k, withinV k 5 = (kf k : Nat) ∧ kf k < 5 := ⟨fun k => (withinV k 5).toNat, fun k => by
    have := withinV_in k 5 (by omega)
    exact ⟨by show _ = (((withinV k 5).toNat : Nat) : Int); omega, by show (withinV k 5).toNat < 5; omega⟩⟩
  have HW : Hid (∀ k W, Calls Tryz.prog 16 #[.int .i64 k, .int .i64 0, .int .i64 9] W fun e w' => e = .returned (.int .i64 (gf k : Nat)) ∧ W = w') := Lib.hid (fun k W => by
    have := within_any k 9 (by omega) (by omega) W
    rw [show ((9 : Int) + 1) = 10 from rfl, (hgf k).1] at this
    exact this)
  obtain ⟨t, ht⟩ : ∃ t, t = tstr s.size := ⟨_, rfl⟩
  have ht4 : t.size ≤ 4 := by rw [ht]; exact tstr_size _
  have HT := Lib.hid ht
  obtain ⟨c, hc⟩ : ∃ c, c = gf a0 := ⟨_, rfl⟩
  obtain ⟨v, hv⟩ : ∃ v, v = gf a1 := ⟨_, rfl⟩
  have hc10 : c < 10 := by rw [hc]; exact (hgf a0).2
  have hv10 : v < 10 := by rw [hv]; exact (hgf a1).2
  have HGC := Lib.hid hc
  have HGV := Lib.hid hv
  clear hc hv ht hgf
  go_enter Tryz.func7, Tryz.ntmps7
  go_upto_region 2 with (first
    | (go_at_call 16; refine (HW.out _ _).mono ?_; rintro e w9 ⟨rfl, hh⟩; subst w9)
    | fail)
  rw [← HGC.out, ← HGV.out]
  obtain ⟨W1, hW1⟩ : ∃ W1 : World, W1 = w.alloc (.cells #[.int .i64 (c : Nat)] 3) := ⟨_, rfl⟩
  obtain ⟨W2, hW2⟩ : ∃ W2 : World, W2 = W1.alloc (.cells #[.int .i64 (v : Nat)] 3) := ⟨_, rfl⟩
  have b1 : Below w.heap.size w W1 := by rw [hW1]; exact (Below.refl _ _).alloc (Nat.le_refl _) _
  have b2 : Below W1.heap.size W1 W2 := by rw [hW2]; exact (Below.refl _ _).alloc (Nat.le_refl _) _
  obtain ⟨b11, hb11⟩ : ∃ b11, b11 = w.heap.size := ⟨_, rfl⟩
  obtain ⟨b12, hb12⟩ : ∃ b12, b12 = w.heap.size + 1 := ⟨_, rfl⟩
  have hs1 : W1.heap.size = b12 := by rw [hW1, hb12]; simp
  have h11 : W1.heap[b11]? = some (.cells #[.int .i64 (c : Nat)] 3 (0, 0)) := by rw [hW1, hb11]; exact heap_alloc_new w _
  have h12 : W2.heap[b12]? = some (.cells #[.int .i64 (v : Nat)] 3 (0, 0)) := by rw [← hs1, hW2]; exact heap_alloc_new W1 _
  have h11' : W2.heap[b11]? = some (.cells #[.int .i64 (c : Nat)] 3 (0, 0)) := (b2.block b11 (by rw [hs1]; omega)).trans h11
  have hs2 : W2.heap.size = b12 + 1 := by rw [hW2, ← hs1]; simp
  have HB2 : Hid (Below w.heap.size w W2) := Lib.hid (b1.trans (b2.mono b1.size))
  rw [← hb12, ← hb11, ← hW1, ← hW2]
  have HLT : Hid (b11 < W2.heap.size ∧ b12 < W2.heap.size) := Lib.hid ⟨by omega, by omega⟩
  have H11 := Lib.hid h11'
  have H12 := Lib.hid h12
  clear hW1 hW2 b1 b2 hb11 hb12 hs1 h11 h12 h11' hs2
  go_upto_region 3 with (first
    | (go_at_call 9; refine (term_any _ _).mono ?_; rintro e w3 ⟨rfl, hb3⟩; have HB3 := Lib.hid hb3; rw [← HT.out]; clear hb3)
    | fail)
  obtain ⟨W4, hW4⟩ : ∃ W4 : World, W4 = w3.alloc (.cells #[.string t] 9) := ⟨_, rfl⟩
  obtain ⟨b13, hb13⟩ : ∃ b13, b13 = w3.heap.size := ⟨_, rfl⟩
  have h13 : W4.heap[b13]? = some (.cells #[.string t] 9 (0, 0)) := by rw [hW4, hb13]; exact heap_alloc_new w3 _
  have b4 : Below w3.heap.size w3 W4 := by rw [hW4]; exact (Below.refl _ _).alloc (Nat.le_refl _) _
  have b24 : Below W2.heap.size W2 W4 := HB3.out.trans (b4.mono HB3.out.size)
  have hl13 : b13 < W4.heap.size := by rw [hb13, hW4]; simp
  have k11 := (b24.block b11 HLT.out.1).trans H11.out
  have k12 := (b24.block b12 HLT.out.2).trans H12.out
  have hl11 : b11 < W4.heap.size := by have := HLT.out.1; have := b24.size; omega
  have hl12 : b12 < W4.heap.size := by have := HLT.out.2; have := b24.size; omega
  rw [← hW4, ← hb13]
  have HB4 : Hid (Below w.heap.size w W4) := Lib.hid (HB2.out.trans (b24.mono HB2.out.size))
  have HOP : Hid (∀ (k : Int) (W : World), Below W4.heap.size W4 W → Calls Tryz.prog 17 #[.int .i64 k, .pointer (some ⟨b13, 0, none⟩), .pointer (some ⟨b12, 0, none⟩), .pointer (some ⟨b11, 0, none⟩)] W fun e w' => e = .returned (.agg #[.int .i64 1, .int .i64 (c : Nat), .int .i64 (1 + kf k : Nat), .string t, .string ⟨#[]⟩, .int .i64 (v : Nat), .int .i64 0, .bool false, .int .i64 0, .slice none 0 0]) ∧ Below W.heap.size W w') := Lib.hid (fun k W hW =>
    op_any k (kf k) (hkf k).1 (hkf k).2 t v c b13 b12 b11 W ((hW.block b13 hl13).trans h13) ((hW.block b12 hl12).trans k12) ((hW.block b11 hl11).trans k11))
  have HE : Hid ((∀ W : World, Below W4.heap.size W4 W → W.cell? ⟨b11, 0, none⟩ = some (.int .i64 (c : Nat))) ∧ ∀ W : World, Below W4.heap.size W4 W → W.cell? ⟨b12, 0, none⟩ = some (.int .i64 (v : Nat))) := Lib.hid ⟨fun W hW => by rw [cell_of_row W b11 0 _ 3 (0, 0) ((hW.block b11 hl11).trans k11)]; rfl, fun W hW => by rw [cell_of_row W b12 0 _ 3 (0, 0) ((hW.block b12 hl12).trans k12)]; rfl⟩
  have HLB : Hid (∀ (k : Int) (W : World), Calls Tryz.prog 18 #[.agg #[.int .i64 1, .int .i64 (c : Nat), .int .i64 (1 + kf k : Nat), .string t, .string ⟨#[]⟩, .int .i64 (v : Nat), .int .i64 0, .bool false, .int .i64 0, .slice none 0 0]] W fun e w' => e = .returned (.string (dg1 c ++ begS (1 + kf k) t v)) ∧ Below W.heap.size W w') := Lib.hid (fun k W => lineB c (1 + kf k) v t W hc10 (by omega) (by have := (hkf k).2; omega) hv10 ht4)
  have HLD : Hid (∀ W : World, Calls Tryz.prog 18 #[.agg #[.int .i64 2, .int .i64 (c : Nat), .int .i64 0, .string ⟨#[]⟩, .string ⟨#[]⟩, .int .i64 0, .int .i64 0, .bool true, .int .i64 (v : Nat), .slice none 0 0]] W fun e w' => e = .returned (.string (dg1 c ++ ⟨#[32, 100, 111, 110, 101]⟩ ++ sd1 v)) ∧ Below W.heap.size W w') := Lib.hid (fun W => lineD c v W hc10 hv10)
  obtain ⟨nn, hnn⟩ : ∃ nn, nn = 3 + v := ⟨_, rfl⟩
  have hwn : IntKind.i64.wrap (3 + (v : Int)) = (nn : Nat) := by rw [hnn, IntWalk.i64_in _ (by omega)]; omega
  have HLN : Hid (∀ W : World, Calls Tryz.prog 18 #[.agg #[.int .i64 (nn : Nat), .int .i64 (c : Nat), .int .i64 0, .string ⟨#[]⟩, .string ⟨#[]⟩, .int .i64 0, .int .i64 0, .bool false, .int .i64 0, .slice none 0 0]] W fun e w' => e = .returned (.string ⟨#[]⟩) ∧ Below W.heap.size W w') := Lib.hid (fun W => lineN c nn W hc10 (by omega))
  have HHK := Lib.hid hkf
  have HCV : Hid (c < 10 ∧ v < 10) := Lib.hid ⟨hc10, hv10⟩
  clear hW4 hb13 h13 b4 b24 hl13 k11 k12 hl11 hl12 hnn hkf HT HGC HGV HW HB2 HB3 HLT H11 H12
  have HCUR : Hid (Below W4.heap.size W4 W4) := Lib.hid (Below.refl _ _)
  have hmf : ∀ (fn : Fn) (first cap : Array Value) (w : World), (Instr.makeFunc fn first cap).run Tryz.prog w = .ok (.func fn first cap) w := fun _ _ _ _ => rfl
  go_upto_region 5 with (first
    | (go_at_call 17; refine (HOP.out _ _ HCUR.out).mono ?_; rintro e wn ⟨rfl, hbn⟩; replace HCUR := Lib.hid (HCUR.out.trans (hbn.mono HCUR.out.size)); clear hbn)
    | (go_at_call 18; refine (HLB.out _ _).mono ?_; rintro e wn ⟨rfl, hbn⟩; replace HCUR := Lib.hid (HCUR.out.trans (hbn.mono HCUR.out.size)); clear hbn)
    | fail)
  have e11 := HE.out.1 _ HCUR.out
  have e12 := HE.out.2 _ HCUR.out
  go_upto_region 6 with (first
    | (go_at_call 18; refine (HLD.out _).mono ?_; rintro e wm ⟨rfl, hbn⟩; replace HCUR := Lib.hid (HCUR.out.trans (hbn.mono HCUR.out.size)); clear hbn e11 e12)
    | fail)
  have e11 := HE.out.1 _ HCUR.out
  have e12 := HE.out.2 _ HCUR.out
  go_upto_region 7 with (first
    | (go_at_call 18; refine (HLN.out _).mono ?_; rintro e wl ⟨rfl, hbn⟩; replace HCUR := Lib.hid (HCUR.out.trans (hbn.mono HCUR.out.size)); clear hbn e11 e12)
    | fail)
  have e11 := HE.out.1 _ HCUR.out
  have hw48 : ∀ x : Nat, x < 10 → IntKind.i64.wrap (48 + (x : Int)) = 48 + (x : Int) ∧ IntKind.u8.wrap (48 + (x : Int)) = 48 + (x : Int) := fun x hx => by
    have : x = 0 ∨ x = 1 ∨ x = 2 ∨ x = 3 ∨ x = 4 ∨ x = 5 ∨ x = 6 ∨ x = 7 ∨ x = 8 ∨ x = 9 := by omega
    rcases this with rfl | rfl | rfl | rfl | rfl | rfl | rfl | rfl | rfl | rfl <;> exact ⟨by decide, by decide⟩
  obtain ⟨u1, u2⟩ := hw48 c HCV.out.1
  obtain ⟨u3, u4⟩ := hw48 v HCV.out.2
  have hcv := conv_dg c HCV.out.1
  go_upto_region 8 with (fail)
  clear u1 u2 hcv e11
  obtain ⟨W8, hW8⟩ : ∃ W8 : World, W8 = wl.alloc (.cells #[.int .u8 (48 + (c : Int))] 5) := ⟨_, rfl⟩
  have hb8 : Below wl.heap.size wl W8 := by rw [hW8]; exact (Below.refl _ _).alloc (Nat.le_refl _) _
  replace HCUR := Lib.hid (HCUR.out.trans (hb8.mono HCUR.out.size))
  rw [← hW8]
  clear hW8 hb8
  obtain ⟨D, hD⟩ : ∃ D, D = dg1 c ++ ⟨#[32, 100, 111, 110, 101]⟩ ++ sd1 v := ⟨_, rfl⟩
  obtain ⟨A1, hA1⟩ : ∃ A1, A1 = dg1 c ++ begS (1 + kf a2) t v := ⟨_, rfl⟩
  obtain ⟨A2, hA2⟩ : ∃ A2, A2 = dg1 c ++ begS (1 + kf a3) t v := ⟨_, rfl⟩
  obtain ⟨d, hd⟩ : ∃ d, d = dg1 c := ⟨_, rfl⟩
  obtain ⟨dv, hdv⟩ : ∃ dv, dv = dg1 v := ⟨_, rfl⟩
  have hcv := conv_dg v HCV.out.2
  rw [← hdv] at hcv
  have hds : d.size = 1 := by rw [hd]; exact dg1_size c
  have hdvs : dv.size = 1 := by rw [hdv]; exact dg1_size v
  have hk2 := HHK.out a2
  have hk3 := HHK.out a3
  have hA1s : A1.size = d.size + (begS (1 + kf a2) t v).size := by rw [hA1, hd, ByteArray.size_append]
  have hge := begS_ge (1 + kf a2) t v
  have g1 : (A1.size : Int) > 4 := by omega
  have g1n : 1 ≤ A1.size := by omega
  have g1m : (1 : Int) ≤ A1.size := by omega
  have g2 : (A1.extract 0 1).toList = d.toList := by rw [hA1, head_app _ _ (by rw [← hd]; exact hds), ← hd]
  have g3 : D.toList = (d ++ ⟨#[32, 100, 111, 110, 101, 32]⟩ ++ dv).toList := by rw [hD, done_eq, ← hd, ← hdv]
  have hinj : A1.toList = A2.toList → kf a2 = kf a3 := fun h => by
    replace h := toList_inj h
    rw [hA1, hA2] at h
    have h2 := app_inj _ _ _ h
    have := begS_inj (by omega) (by omega) (by omega) (by omega) h2
    omega
  rw [← hD, ← hA1, ← hA2, ← hd]
  have HDD := Lib.hid hD
  have hAA : kf a2 = kf a3 → A1 = A2 := fun h => by rw [hA1, hA2, h]
  have HD := Lib.hid hd
  clear hD hA1 hA2 hd hdv hA1s hge hk2 hk3
  have HINJ := Lib.hid hinj
  have HAA := Lib.hid hAA
  clear hinj hAA
  have hfo := field_op
  have hfk := field_kind
  by_cases hkk : kf a2 = kf a3
  · have g4 : A1.toList = A2.toList := by rw [HAA.out hkk]
    have g5 : ((kf a2 : Nat) : Int) = ((kf a3 : Nat) : Int) := by rw [hkk]
    go_wp2_with (first
      | (go_at_call 3; refine (HRUNS.out _).mono ?_; rintro e wz ⟨rfl, hbz⟩; have HBZ := Lib.hid hbz; clear hbz)
      | (go_at_call 17; refine (HOP.out _ _ HCUR.out).mono ?_; rintro e wn ⟨rfl, hbn⟩; replace HCUR := Lib.hid (HCUR.out.trans (hbn.mono HCUR.out.size)); have e12 := HE.out.2 _ HCUR.out; clear hbn)
      | fail)
    go_ret
    refine ⟨rfl, ?_⟩
    have h1 := HCUR.out
    have h2 := HBZ.out
    have h3 := HB4.out
    exact (h3.trans (h1.mono h3.size)).trans ((((Below.refl _ _).alloc (Nat.le_refl _) _).trans (h2.mono (by simp))).mono (Nat.le_trans h3.size h1.size))
  · have g4 : ¬ A1.toList = A2.toList := fun h => hkk (HINJ.out h)
    have g5 : ¬ ((kf a2 : Nat) : Int) = ((kf a3 : Nat) : Int) := fun h => hkk (by omega)
    have g6 : (A1.toList == A2.toList) = ((1 + (kf a2 : Int)) == 1 + (kf a3 : Int)) := by
      rw [beq_eq_false_iff_ne.2 g4, beq_eq_false_iff_ne.2 (show (1 + (kf a2 : Int)) ≠ 1 + (kf a3 : Int) by omega)]
    go_wp2_with (first
      | (go_at_call 3; refine (HRUNS.out _).mono ?_; rintro e wz ⟨rfl, hbz⟩; have HBZ := Lib.hid hbz; clear hbz)
      | (go_at_call 17; refine (HOP.out _ _ HCUR.out).mono ?_; rintro e wn ⟨rfl, hbn⟩; replace HCUR := Lib.hid (HCUR.out.trans (hbn.mono HCUR.out.size)); have e12 := HE.out.2 _ HCUR.out; clear hbn)
      | fail)
    go_ret
    refine ⟨rfl, ?_⟩
    have h1 := HCUR.out
    have h2 := HBZ.out
    have h3 := HB4.out
    exact (h3.trans (h1.mono h3.size)).trans ((((Below.refl _ _).alloc (Nat.le_refl _) _).trans (h2.mono (by simp))).mono (Nat.le_trans h3.size h1.size))
end Go.Proofs.YtedjimkpmmacoaaGreatDoor
