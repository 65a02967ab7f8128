/-
  The arena and the reference's, side by side: the slots; no condition.
  The arena and the reference's, side by side: a call on the one and the like call on the other; conditions: lengths.
  New arenas, the reference's and the program's: numbers that are refused; conditions: none.
  The arena and the reference's, side by side: calls that change nothing; conditions: lengths.
  The reference's NewArena, on its way; conditions: lengths.
  The reference's NewArena; conditions: at most 1024 slots.
  Both arenas, a row of the law's own and a box of a round: what each kind of call does; conditions: lengths.
  Both arenas, new; a round's box; conditions: at most 1024 slots.
-/
import Derived.Test.YtndmpdpmfieacaaRg1
import Derived.Test.YtndmpdpmfieacaaArU
import Derived.Test.YtndmpdpmfieacaaArQ
namespace Go.Proofs.Ytndmpdpmfieacaa
open Go.RowKit Go.WideShapes Go.ChangeShapes
set_option linter.all false
/-- The same slots, each side in blocks of its own. -/
structure Sm (sl rl : List Sl) : Prop where
  len : rl.length = sl.length
  eq : ∀ i, i < sl.length → (rl.getD i dS).cls = (sl.getD i dS).cls ∧ (rl.getD i dS).gen = (sl.getD i dS).gen ∧ (rl.getD i dS).live = (sl.getD i dS).live
  ws : ∀ i, i < sl.length → (sl.getD i dS).live = true → (rl.getD i dS).ws = (sl.getD i dS).ws
theorem Sm.why {sl rl : List Sl} (h : Sm sl rl) {r : Int} {z : Nat} (hw : Why sl r z) : Why rl r z := by
  cases hw with
  | bad hg => exact .bad hg
  | far hg hf => exact .far hg (by rw [h.len]; exact hf)
  | leaf i hg hi he hl => exact .leaf i hg (by rw [h.len]; exact hi) he (by rw [(h.eq i hi).1]; exact hl)
  | gen i hg hi he hl hgn => exact .gen i hg (by rw [h.len]; exact hi) he (by rw [(h.eq i hi).1]; exact hl) (by rw [(h.eq i hi).2.1]; exact hgn)
  | free i hg hi he hl hgn hv => exact .free i hg (by rw [h.len]; exact hi) he (by rw [(h.eq i hi).1]; exact hl) (by rw [(h.eq i hi).2.1]; exact hgn) (by rw [(h.eq i hi).2.2]; exact hv)
theorem Sm.live {sl rl : List Sl} (h : Sm sl rl) {r : Int} {i : Nat} (hw : Live sl r i) : Live rl r i :=
  ⟨hw.good, by rw [h.len]; exact hw.lt, hw.slot, by rw [(h.eq i hw.lt).1]; exact hw.leaf, by rw [(h.eq i hw.lt).2.1]; exact hw.gen, by rw [(h.eq i hw.lt).2.2]; exact hw.live⟩
/-- One slot is turned on both sides. -/
theorem Sm.set {sl rl : List Sl} (h : Sm sl rl) {i : Nat} (hi : i < sl.length) {s t : Sl} (h1 : t.cls = s.cls ∧ t.gen = s.gen ∧ t.live = s.live) (h2 : s.live = true → t.ws = s.ws) : Sm (sl.set i s) (rl.set i t) := by
  have hr : i < rl.length := by rw [h.len]; exact hi
  refine ⟨by rw [List.length_set, List.length_set]; exact h.len, fun j hj => ?_, fun j hj hl => ?_⟩
  · rw [List.length_set] at hj
    rw [getD_set hr, getD_set hi]
    split
    · exact h1
    · exact h.eq j hj
  · rw [List.length_set] at hj
    rw [getD_set hi] at hl
    rw [getD_set hr, getD_set hi]
    split
    · rename_i e; rw [if_pos e] at hl; exact h2 hl
    · rename_i e; rw [if_neg e] at hl; exact h.ws j hj hl
/-- The blocks that the reference's arena stands on. -/
def RFoot (Q T : Nat) (rl : List Sl) (PA : Nat → Option Addr) (b : Nat) : Prop :=
  b = Q ∨ (b = T ∧ 0 < rl.length) ∨ (∃ i, i < rl.length ∧ b = (rl.getD i dS).blk) ∨ ∃ c ad, c < 5 ∧ PA c = some ad ∧ b = ad.block
section
variable {Q T o cp k : Nat} {A : Option Addr} {rl : List Sl} {ys : Nat → List Int} {PA PA' : Nat → Option Addr} {PC : Nat → Nat} {w w' : World}
theorem RA.same (h : RA Q T o cp k A rl ys PA PC w) (hs : w.heap.size ≤ w'.heap.size) (hb : ∀ b, RFoot Q T rl PA b → w'.heap[b]? = w.heap[b]?) : RA Q T o cp k A rl ys PA PC w' := by
  have eQ := hb Q (.inl rfl)
  have eT : ∀ x, 0 < rl.length → w'.cell? ⟨T, x, none⟩ = w.cell? ⟨T, x, none⟩ ∧ w'.frozen? ⟨T, x, none⟩ = w.frozen? ⟨T, x, none⟩ := fun x hx => by
    have e := hb T (.inr (.inl ⟨rfl, hx⟩))
    exact ⟨World.cell?_of_block (a := ⟨T, x, none⟩) e, World.frozen?_of_block (a := ⟨T, x, none⟩) e⟩
  refine ⟨(World.cell?_of_block (a := ⟨Q, 0, none⟩) eQ).trans h.c0, h.hA, ⟨fun i hi => (eT _ (by omega)).1.trans (h.row.r0 i hi), fun i hi => (eT _ (by omega)).1.trans (h.row.r1 i hi), fun i hi => (eT _ (by omega)).1.trans (h.row.r2 i hi), fun i hi => (eT _ (by omega)).1.trans (h.row.r3 i hi), fun i hi j => (eT _ (by omega)).2.trans (h.row.fr i hi j)⟩,
    fun i hi => ⟨(hb _ (.inr (.inr (.inl ⟨i, hi, rfl⟩)))).trans (h.wds i hi).1, (h.wds i hi).2⟩, fun c hc => ?_, h.len, h.qt, h.wt, h.pt, fun hx => Nat.lt_of_lt_of_le (h.tl hx) hs, Nat.lt_of_lt_of_le h.ql hs, h.pcm, h.yl, fun c hc ad e => Nat.lt_of_lt_of_le (h.pb c hc ad e) hs⟩
  have hp := h.pl c hc
  refine ⟨(World.cell?_of_block (a := ⟨Q, 1 + c * 2, none⟩) eQ).trans hp.c0, (World.cell?_of_block (a := ⟨Q, 1 + c * 2 + 1, none⟩) eQ).trans hp.c1, (World.frozen?_of_block (a := ⟨Q, 1 + c * 2 + 1, none⟩) eQ).trans hp.f1, ⟨hp.rd.1, fun hn => ?_⟩, hp.cap, hp.far⟩
  obtain ⟨ad, e1, hlt, hcell⟩ := hp.rd.2 hn
  have e := hb ad.block (.inr (.inr (.inr ⟨c, ad, hc, e1, rfl⟩)))
  exact ⟨ad, e1, Nat.lt_of_lt_of_le hlt hs, fun j u hu => by
    have := World.cell?_of_block (a := ad.add j) (w := w) (w' := w') (by rw [block_of_add]; exact e)
    rw [this]; exact hcell j u hu⟩
/-- Where its blocks lie behind a call. -/
theorem RFoot.after {rl' : List Sl} (hl : rl'.length = rl.length) (hb : ∀ i, i < rl.length → (rl'.getD i dS).blk = (rl.getD i dS).blk ∨ w.heap.size ≤ (rl'.getD i dS).blk) (hp : RP PA PA' w) {b : Nat} (h : RFoot Q T rl' PA' b) : RFoot Q T rl PA b ∨ w.heap.size ≤ b := by
  rcases h with rfl | ⟨rfl, h⟩ | ⟨i, hi, rfl⟩ | ⟨c, ad, hc, e, rfl⟩
  · exact .inl (.inl rfl)
  · exact .inl (.inr (.inl ⟨rfl, by omega⟩))
  · rcases hb i (by omega) with h1 | h1
    · rw [h1]; exact .inl (.inr (.inr (.inl ⟨i, by omega, rfl⟩)))
    · exact .inr h1
  · rcases hp c hc ad e with ⟨a, ea, eb⟩ | h1
    · exact .inl (.inr (.inr (.inr ⟨c, a, hc, ea, eb.symm⟩)))
    · exact .inr h1
theorem RP.refl (PA : Nat → Option Addr) (w : World) : RP PA PA w := fun d _ ad e => .inl ⟨ad, e, rfl⟩
end
/-- Both arenas in one world; F are the blocks of the program's, H those of the reference's. -/
structure Tw (F H : Nat → Prop) (w : World) : Prop where
  ap : ∀ b, F b → ¬ H b
  fl : ∀ b, F b → b < w.heap.size
  hl : ∀ b, H b → b < w.heap.size
/-- .. behind a call on the program's. -/
theorem Tw.prog {F F' H : Nat → Prop} {w w' : World} (h : Tw F H w) (hm : Mv F F' w w') (hf : ∀ b, F' b → b < w'.heap.size) : Tw F' H w' ∧ ∀ b, H b → w'.heap[b]? = w.heap[b]? :=
  ⟨⟨fun b h1 h2 => by
    rcases hm.foot b h1 with h3 | h3
    · exact h.ap b h3 h2
    · have := h.hl b h2; omega, hf, fun b hb => Nat.lt_of_lt_of_le (h.hl b hb) hm.size⟩, fun b hb => hm.block b (h.hl b hb) (fun hF => h.ap b hF hb)⟩
/-- .. behind a call on the reference's. -/
theorem Tw.ref {F H H' : Nat → Prop} {Q T : Nat} {w w' : World} (h : Tw F H w) (hq : H Q) (ht : ∀ b, F b → b ≠ T) (hm : RMv Q T w w') (hn : ∀ b, H' b → H b ∨ w.heap.size ≤ b) (hl : ∀ b, H' b → b < w'.heap.size) : Tw F H' w' ∧ ∀ b, F b → w'.heap[b]? = w.heap[b]? :=
  ⟨⟨fun b h1 h2 => by
    rcases hn b h2 with h3 | h3
    · exact h.ap b h1 h3
    · have := h.fl b h1; omega, fun b hb => Nat.lt_of_lt_of_le (h.fl b hb) hm.size, hl⟩, fun b hb => hm.block b (h.fl b hb) (fun e => h.ap b hb (e ▸ hq)) (ht b hb)⟩
end Go.Proofs.Ytndmpdpmfieacaa

namespace Go.Proofs.Ytndmpdpmfieacaa
open Go.RowKit Go.WideShapes Go.ChangeShapes
set_option linter.all false
set_option maxRecDepth 100000
/-- Both arenas, and that all below M is as it was in w0. -/
structure TA (M : Nat) (w0 : World) (N B S k G : Nat) (sl : List Sl) (P I : Nat → Nat) (V : Nat → Value) (xs : Nat → List Int) (Q T o cp : Nat) (A : Option Addr) (rl : List Sl) (ys : Nat → List Int) (PA : Nat → Option Addr) (PC : Nat → Nat) (w : World) : Prop where
  ar : Ar N B S k 5 sl P I V xs w
  ok : Ok sl xs G
  len : sl.length ≤ k
  k9 : k ≤ 1024
  ra : RA Q T o cp k A rl ys PA PC w
  sm : Sm sl rl
  rel : ∀ c, c < 5 → Rel (ys c) (xs c)
  tw : Tw (Foot B S 5 sl P I V) (RFoot Q T rl PA) w
  ft : ∀ b, Foot B S 5 sl P I V b → b ≠ T
  bel : Below M w0 w
  lo : (∀ b, Foot B S 5 sl P I V b → M ≤ b) ∧ M ≤ Q ∧ M ≤ T ∧ M ≤ w0.heap.size
/-- The blocks of both. -/
def FF (B S : Nat) (sl : List Sl) (P I : Nat → Nat) (V : Nat → Value) (Q T : Nat) (rl : List Sl) (PA : Nat → Option Addr) (b : Nat) : Prop := Foot B S 5 sl P I V b ∨ RFoot Q T rl PA b
section
variable {M N B S k G : Nat} {w0 : World} {sl : List Sl} {P I : Nat → Nat} {V : Nat → Value} {xs : Nat → List Int} {Q T o cp : Nat} {A : Option Addr} {rl : List Sl} {ys : Nat → List Int} {PA : Nat → Option Addr} {PC : Nat → Nat} {w w' : World}
theorem TA.M0 (h : TA M w0 N B S k G sl P I V xs Q T o cp A rl ys PA PC w) : M ≤ w.heap.size := by have := h.lo.2.1; have := h.ra.ql; omega
theorem TA.on (h : TA M w0 N B S k G sl P I V xs Q T o cp A rl ys PA PC w) (hb : Below w.heap.size w w') : TA M w0 N B S k G sl P I V xs Q T o cp A rl ys PA PC w' :=
  ⟨h.ar.on hb, h.ok, h.len, h.k9, h.ra.on hb, h.sm, h.rel, ⟨h.tw.ap, fun b hf => Nat.lt_of_lt_of_le (h.tw.fl b hf) hb.size, fun b hf => Nat.lt_of_lt_of_le (h.tw.hl b hf) hb.size⟩, h.ft, h.bel.trans (hb.mono h.M0), h.lo⟩
/-- Free on both sides, where the ref names no slot. -/
theorem TA.free_no (h : TA M w0 N B S k G sl P I V xs Q T o cp A rl ys PA PC w) {r : Int} {z : Nat} (hw : Why sl r z) (hz : z = 1 ∨ z = 3 ∨ z = 4) :
    (∀ W, Below w.heap.size w W → Calls Try.prog 18 #[.pointer (some ⟨B, 0, none⟩), .int .i64 r] W fun e w' => e = .returned (.int .i64 (z : Nat)) ∧ w' = W) ∧
    (∀ W, Below w.heap.size w W → Calls Try.prog 29 #[.pointer (some ⟨Q, 0, none⟩), .int .i64 r] W fun e w' => e = .returned (.int .i64 (z : Nat)) ∧ w' = W) :=
  ⟨fun W hb => Go.Proofs.Ytndmpdpmfieacaa.free_no (h.ar.on hb) (by have := h.len; have := h.k9; omega) hw, fun W hb => rfree_no (h.ra.on hb) (h.sm.why hw) hz⟩
theorem rel_not_mem {ys xs : List Int} (r : Rel ys xs) {z : Int} (h : z ∉ xs) : z ∉ ys := fun hm => h ((r.mem z).1 hm)
/-- Where both sides stand behind a call on each. -/
theorem TA.both (h : TA M w0 N B S k G sl P I V xs Q T o cp A rl ys PA PC w) {G' : Nat} {w1 W w2 : World} {sl' : List Sl} {V' : Nat → Value} {xs' : Nat → List Int} {rl' : List Sl} {ys' : Nat → List Int} {PA' : Nat → Option Addr} {PC' : Nat → Nat}
    (har : Ar N B S k 5 sl' P I V' xs' w1) (hmv : Mv (Foot B S 5 sl P I V) (Foot B S 5 sl' P I V') w w1) (hok : Ok sl' xs' G') (hsl : sl'.length = sl.length) (hW : Below w1.heap.size w1 W)
    (hra2 : RA Q T o cp k A rl' ys' PA' PC' w2) (hrm : RMv Q T W w2) (hrl : rl'.length = rl.length) (hbk : ∀ i, i < rl.length → (rl'.getD i dS).blk = (rl.getD i dS).blk ∨ W.heap.size ≤ (rl'.getD i dS).blk) (hrp : RP PA PA' W)
    (hsm : Sm sl' rl') (hrel : ∀ c, c < 5 → Rel (ys' c) (xs' c)) (hpos : 0 < sl.length) : TA M w0 N B S k G' sl' P I V' xs' Q T o cp A rl' ys' PA' PC' w2 ∧ Mv (FF B S sl P I V Q T rl PA) (FF B S sl' P I V' Q T rl' PA') w w2 := by
  obtain ⟨htw, _⟩ := h.tw.prog hmv (fun b hb => (har.foot hb).2)
  have har1 := har.on hW
  have htw1 : Tw (Foot B S 5 sl' P I V') (RFoot Q T rl PA) W := ⟨htw.ap, fun b hb => (har1.foot hb).2, fun b hb => Nat.lt_of_lt_of_le (htw.hl b hb) hW.size⟩
  have hfT : ∀ b, Foot B S 5 sl' P I V' b → b ≠ T := fun b hb => by
    rcases hmv.foot b hb with h1 | h1
    · exact h.ft b h1
    · have := h.ra.tl (by rw [h.sm.len]; omega); omega
  have hn : ∀ b, RFoot Q T rl' PA' b → RFoot Q T rl PA b ∨ W.heap.size ≤ b := fun b hb => RFoot.after hrl hbk hrp hb
  have hhl : ∀ b, RFoot Q T rl' PA' b → b < w2.heap.size := fun b hb => by
    rcases hb with rfl | ⟨rfl, hz⟩ | ⟨j, hj, rfl⟩ | ⟨c, ad, hc, e, rfl⟩
    · exact hra2.ql
    · exact hra2.tl hz
    · exact lt_of_heap (hra2.wds j hj).1
    · exact hra2.pb c hc ad e
  obtain ⟨htw2, hsm2⟩ := htw1.ref (.inl rfl) hfT hrm hn hhl
  have hlo := h.lo
  have hM1 : Below M w0 w1 := hmv.below h.bel hlo.1 hlo.2.2.2
  have hMW : Below M w0 W := hM1.trans (hW.mono (by have := h.M0; have := hmv.size; omega))
  have hM2 : Below M w0 w2 := ⟨hrm.os.trans hMW.os, hrm.tape.trans hMW.tape, hrm.output.trans hMW.output, Nat.le_trans hMW.size hrm.size, fun b hb => (hrm.block b (by have := hMW.size; omega) (by omega) (by omega)).trans (hMW.block b hb)⟩
  have hmm : Mv (FF B S sl P I V Q T rl PA) (FF B S sl' P I V' Q T rl' PA') w w2 := by
    have s1 := hmv.size
    have s2 := hW.size
    refine ⟨hrm.os.trans (hW.os.trans hmv.os), hrm.tape.trans (hW.tape.trans hmv.tape), hrm.output.trans (hW.output.trans hmv.output), Nat.le_trans s1 (Nat.le_trans s2 hrm.size), fun b hb hf => ?_, fun b hb => ?_⟩
    · have f1 : ¬ Foot B S 5 sl P I V b := fun e => hf (.inl e)
      have f2 : b ≠ Q := fun e => hf (.inr (.inl e))
      have f3 : b ≠ T := fun e => hf (.inr (.inr (.inl ⟨e, by rw [h.sm.len]; omega⟩)))
      exact (hrm.block b (by omega) f2 f3).trans ((hW.block b (by omega)).trans (hmv.block b hb f1))
    · rcases hb with hb | hb
      · rcases hmv.foot b hb with h1 | h1
        · exact .inl (.inl h1)
        · exact .inr h1
      · rcases hn b hb with h1 | h1
        · exact .inl (.inr h1)
        · exact .inr (by omega)
  refine ⟨⟨har1.same hsm2, hok, by rw [hsl]; exact h.len, h.k9, hra2, hsm, hrel, htw2, hfT, hM2, ⟨fun b hb => ?_, hlo.2.1, hlo.2.2.1, hlo.2.2.2⟩⟩, hmm⟩
  rcases hmv.foot b hb with h1 | h1
  · exact hlo.1 b h1
  · have := h.M0; omega
theorem TA.ra1 (h : TA M w0 N B S k G sl P I V xs Q T o cp A rl ys PA PC w) {w1 W : World} {sl' : List Sl} {V' : Nat → Value} {xs' : Nat → List Int} (har : Ar N B S k 5 sl' P I V' xs' w1) (hmv : Mv (Foot B S 5 sl P I V) (Foot B S 5 sl' P I V') w w1) (hW : Below w1.heap.size w1 W) : RA Q T o cp k A rl ys PA PC W := by
  obtain ⟨_, hsm⟩ := h.tw.prog hmv (fun b hb => (har.foot hb).2)
  exact (h.ra.same hmv.size hsm).on hW
/-- Free on both sides: the program's call, and what the reference's does behind it. -/
theorem TA.free_ok (h : TA M w0 N B S k G sl P I V xs Q T o cp A rl ys PA PC w) (hG : G < 1000000) {r : Int} {i : Nat} (hw : Live sl r i) (hxl : (xs (sl.getD i dS).cls).length < 1024) :
    Calls Try.prog 18 #[.pointer (some ⟨B, 0, none⟩), .int .i64 r] w fun e w1 => e = .returned (.int .i64 0) ∧ w.heap.size ≤ w1.heap.size ∧ (∀ b, b < w.heap.size → ¬ Foot B S 5 sl P I V b → w1.heap[b]? = w.heap[b]?) ∧ ∀ W, Below w1.heap.size w1 W → Calls Try.prog 29 #[.pointer (some ⟨Q, 0, none⟩), .int .i64 r] W fun e w2 => e = .returned (.int .i64 0) ∧ ∃ sl' V' xs' rl' ys' PA' PC', TA M w0 N B S k (G + 1) sl' P I V' xs' Q T o cp A rl' ys' PA' PC' w2 ∧ Mv (FF B S sl P I V Q T rl PA) (FF B S sl' P I V' Q T rl' PA') w w2 := by
  have hi := hw.lt
  have hlk := h.len
  have hk9 := h.k9
  have hc5 := (h.ar.wds i hi).2.2.1
  have hgn := h.ok.gen i hi
  have hnx := h.ok.not_mem hi hw.live
  have hr := h.rel _ hc5
  have hnd := (h.ar.pl _ hc5).nodup
  have hyx := hr.len hnd
  have hxl5 := hxl
  refine (Go.Proofs.Ytndmpdpmfieacaa.free_ok h.ar (by omega) hw (by omega) (by omega) hnx (by omega)).mono ?_
  rintro e w1 ⟨rfl, v', har, hmv⟩
  refine ⟨rfl, hmv.size, hmv.block, fun W hW => ?_⟩
  obtain ⟨htw, hsm⟩ := h.tw.prog hmv (fun b hb => (har.foot hb).2)
  have hra1 := (h.ra.same hmv.size hsm).on hW
  have har1 := har.on hW
  have hlr := h.sm.live hw
  have he := h.sm.eq i hi
  refine (rfree_ok hra1 hk9 hlr (by omega) (by omega) (by rw [he.1]; exact rel_not_mem hr hnx) (by rw [he.1]; exact hr.srt) (by rw [he.1]; omega)).mono ?_
  rintro e w2 ⟨rfl, bk, y', PA', PC', hra2, hrm, hbk, hrp, hsr, hme⟩
  rw [he.1] at hme
  refine ⟨rfl, _, _, _, _, _, _, _, h.both har hmv (h.ok.freed hi rfl) (List.length_set ..) hW hra2 hrm (List.length_set ..) (fun j hj => ?_) hrp (h.sm.set hi ⟨he.1, ?_, rfl⟩ (fun hl => by cases hl)) (fun c hc => ?_) (by omega)⟩
  · rw [getD_set (by rw [h.sm.len]; exact hi)]
    split
    · exact .inr hbk
    · exact .inl rfl
  · show (rl.getD i dS).gen + 1 = (sl.getD i dS).gen + 1
    rw [he.2.1]
  · rw [he.1]
    by_cases e : c = (sl.getD i dS).cls
    · subst e
      rw [up_same, up_same]
      exact (h.rel _ hc).put hsr hme
    · rw [up_other _ _ e, up_other _ _ e]; exact h.rel c hc
/-- Alloc on both sides where there is room. -/
theorem TA.alloc_ok (h : TA M w0 N B S k G sl P I V xs Q T o cp A rl ys PA PC w) (hG : G < 1000000) {c m d M' : Nat} {A' : Option Addr} {l : List Int} (hc : c < 5) (hr : Reads w M' 1 A' m (wv l)) (hM : M' ≤ w.heap.size) (hfar : ∀ ad, A' = some ad → 0 < m → ¬ Foot B S 5 sl P I V ad.block) (hfr : ∀ ad, A' = some ad → 0 < m → ad.block ≠ Q ∧ ad.block ≠ T) (hm : m ≤ szN c) (hx : xs c ≠ []) (hxl : ∀ c, c < 5 → (xs c).length ≤ 1024) :
    Calls Try.prog 23 #[.pointer (some ⟨B, 0, none⟩), .int .i64 (c : Nat), .slice A' m d] w fun e w1 => ∃ z, e = .returned (.tuple #[.int .i64 z, .int .i64 0]) ∧ w.heap.size ≤ w1.heap.size ∧ (∀ b, b < w.heap.size → ¬ Foot B S 5 sl P I V b → w1.heap[b]? = w.heap[b]?) ∧ ∀ W, Below w1.heap.size w1 W → Calls Try.prog 28 #[.pointer (some ⟨Q, 0, none⟩), .int .i64 (c : Nat), .slice A' m d] W fun e w2 => e = .returned (.tuple #[.int .i64 z, .int .i64 0]) ∧ ∃ sl' V' xs' rl' ys' PA' PC', TA M w0 N B S k G sl' P I V' xs' Q T o cp A rl' ys' PA' PC' w2 ∧ Mv (FF B S sl P I V Q T rl PA) (FF B S sl' P I V' Q T rl' PA') w w2 := by
  have hk9 := h.k9
  have hlk := h.len
  obtain ⟨i, hi, hxi, hic, hil⟩ := h.ok.head hx
  have hg := h.ok.gen i hi
  have hxl5 := hxl c hc
  refine (Go.Proofs.Ytndmpdpmfieacaa.alloc_ok h.ar (by omega) (i := i) hc hr hM hfar hm hx (by omega) hi hxi hic (by omega)).mono ?_
  rintro e w1 ⟨rfl, v', har, hmv⟩
  refine ⟨_, rfl, hmv.size, hmv.block, fun W hW => ?_⟩
  have hra1 := h.ra1 har hmv hW
  obtain ⟨ys1, hys, hrel1⟩ := (h.rel c hc).cons hx (h.ar.pl c hc).heap (h.ar.pl c hc).nodup
  rw [hxi] at hys
  have he := h.sm.eq i hi
  have hrd : Reads W M' 1 A' m (wv l) := (hr.mv hM hfar hmv).below (hW.mono (by have := hmv.size; omega))
  refine (ralloc_ok hra1 hc hys (by rw [h.sm.len]; exact hi) (by rw [he.1]; exact hic) hrd (by have := hmv.size; have := hW.size; omega) hfr hm).mono ?_
  rintro e w2 ⟨rfl, bk, PA', PC', hra2, hrm, hbk, hrp⟩
  rw [he.2.1]
  refine ⟨rfl, _, _, _, _, _, _, _, h.both har hmv (h.ok.alloc hi hx hxi hic (h.ar.pl c hc).nodup l) (List.length_set ..) hW hra2 hrm (List.length_set ..) (fun j hj => ?_) hrp (h.sm.set hi ⟨he.1, he.2.1, rfl⟩ (fun _ => ?_)) (fun e hc' => ?_) (by omega)⟩
  · rw [getD_set (by rw [h.sm.len]; exact hi)]
    split
    · exact .inr hbk
    · exact .inl rfl
  · show fillL (szN c) l = fillL (szN (sl.getD i dS).cls) l
    rw [hic]
  · by_cases e2 : e = c
    · subst e2; rw [up_same, up_same]; exact hrel1
    · rw [up_other _ _ e2, up_other _ _ e2]; exact h.rel e hc'
theorem Ok.setWs (h : Ok sl xs G) {i : Nat} (hi : i < sl.length) (l : List Int) : Ok (sl.set i { sl.getD i dS with ws := l }) xs G := by
  have key : ∀ j, ((sl.set i { sl.getD i dS with ws := l }).getD j dS).cls = (sl.getD j dS).cls ∧ ((sl.set i { sl.getD i dS with ws := l }).getD j dS).gen = (sl.getD j dS).gen ∧ ((sl.set i { sl.getD i dS with ws := l }).getD j dS).live = (sl.getD j dS).live := fun j => by
    rw [getD_set hi]
    split
    · rename_i e; subst e; exact ⟨rfl, rfl, rfl⟩
    · exact ⟨rfl, rfl, rfl⟩
  refine ⟨fun j hj => ?_, fun e y hy => ?_, fun j hj => ?_⟩
  · rw [List.length_set] at hj
    rw [(key j).1, (key j).2.2]; exact h.free j hj
  · obtain ⟨j, hj, e1, e2⟩ := h.only e y hy
    exact ⟨j, by rw [List.length_set]; exact hj, e1, by rw [(key j).1]; exact e2⟩
  · rw [List.length_set] at hj
    rw [(key j).2.1]; exact h.gen j hj
/-- store on both sides. -/
theorem TA.store_ok (h : TA M w0 N B S k G sl P I V xs Q T o cp A rl ys PA PC w) {r : Int} {i : Nat} (hw : Live sl r i) {m d M' : Nat} {A' : Option Addr} {l : List Int} (hr : Reads w M' 1 A' m (wv l)) (hM : M' ≤ w.heap.size) (hfar : ∀ ad, A' = some ad → 0 < m → ¬ Foot B S 5 sl P I V ad.block) (hm : m ≤ szN (sl.getD i dS).cls) :
    Calls Try.prog 19 #[.pointer (some ⟨B, 0, none⟩), .int .i64 r, .slice A' m d] w fun e w1 => e = .returned (.int .i64 0) ∧ w.heap.size ≤ w1.heap.size ∧ (∀ b, b < w.heap.size → ¬ Foot B S 5 sl P I V b → w1.heap[b]? = w.heap[b]?) ∧ ∀ W, Below w1.heap.size w1 W → Calls Try.prog 30 #[.pointer (some ⟨Q, 0, none⟩), .int .i64 r, .slice A' m d] W fun e w2 => e = .returned (.int .i64 0) ∧ ∃ sl' rl', TA M w0 N B S k G sl' P I V xs Q T o cp A rl' ys PA PC w2 ∧ Mv (FF B S sl P I V Q T rl PA) (FF B S sl' P I V Q T rl' PA) w w2 := by
  have hk9 := h.k9
  have hlk := h.len
  have hi := hw.lt
  have he := h.sm.eq i hi
  have hlr := h.sm.live hw
  refine (Go.Proofs.Ytndmpdpmfieacaa.store_ok h.ar (by omega) hw hr hm).mono ?_
  rintro e w1 ⟨rfl, har, hmv⟩
  refine ⟨rfl, hmv.size, hmv.block, fun W hW => ?_⟩
  have hmv' : Mv (Foot B S 5 sl P I V) (Foot B S 5 (sl.set i { sl.getD i dS with ws := fillL (szN (sl.getD i dS).cls) l }) P I V) w w1 := hmv.to (fun b hb => foot_len (List.length_set ..) (fun j => by rw [getD_set hi]; split; (rename_i e; subst e; rfl); rfl) hb)
  have hra1 := h.ra1 har hmv' hW
  have hrd : Reads W M' 1 A' m (wv l) := (hr.mv hM hfar hmv).below (hW.mono (by have := hmv.size; omega))
  refine (rstore_ok hra1 hlr hrd (by have := hmv.size; have := hW.size; omega) (by rw [he.1]; exact hm)).mono ?_
  rintro e w2 ⟨rfl, bk, hra2, hrm, hbk⟩
  refine ⟨rfl, _, _, h.both har hmv' (h.ok.setWs hi _) (List.length_set ..) hW hra2 hrm (List.length_set ..) (fun j hj => ?_) (RP.refl _ _) (h.sm.set hi ⟨he.1, he.2.1, he.2.2⟩ (fun _ => ?_)) h.rel (by omega)⟩
  · rw [getD_set (by rw [h.sm.len]; exact hi)]
    split
    · exact .inr hbk
    · exact .inl rfl
  · show fillL (szN (rl.getD i dS).cls) l = fillL (szN (sl.getD i dS).cls) l
    rw [he.1]
/-- swap on both sides. -/
theorem TA.swap_ok (h : TA M w0 N B S k G sl P I V xs Q T o cp A rl ys PA PC w) {r : Int} {i : Nat} (hw : Live sl r i) {x : Int} {m d M' : Nat} {A' : Option Addr} {l : List Int} (hr : Reads w M' 1 A' m (wv l)) (hM : M' ≤ w.heap.size) (hfar : ∀ ad, A' = some ad → 0 < m → ¬ Foot B S 5 sl P I V ad.block) (hm : m ≤ szN (sl.getD i dS).cls) (hx : (sl.getD i dS).ws.getD 0 0 = x) :
    Calls Try.prog 17 #[.pointer (some ⟨B, 0, none⟩), .int .i64 r, .int .u64 x, .slice A' m d] w fun e w1 => e = .returned (.tuple #[.bool true, .int .i64 0]) ∧ w.heap.size ≤ w1.heap.size ∧ (∀ b, b < w.heap.size → ¬ Foot B S 5 sl P I V b → w1.heap[b]? = w.heap[b]?) ∧ ∀ W, Below w1.heap.size w1 W → Calls Try.prog 31 #[.pointer (some ⟨Q, 0, none⟩), .int .i64 r, .int .u64 x, .slice A' m d] W fun e w2 => e = .returned (.tuple #[.bool true, .int .i64 0]) ∧ ∃ sl' rl', TA M w0 N B S k G sl' P I V xs Q T o cp A rl' ys PA PC w2 ∧ Mv (FF B S sl P I V Q T rl PA) (FF B S sl' P I V Q T rl' PA) w w2 := by
  have hk9 := h.k9
  have hlk := h.len
  have hi := hw.lt
  have he := h.sm.eq i hi
  have hlr := h.sm.live hw
  refine (Go.Proofs.Ytndmpdpmfieacaa.swap_ok h.ar (by omega) hw hr hm hx).mono ?_
  rintro e w1 ⟨rfl, har, hmv⟩
  refine ⟨rfl, hmv.size, hmv.block, fun W hW => ?_⟩
  have hmv' : Mv (Foot B S 5 sl P I V) (Foot B S 5 (sl.set i { sl.getD i dS with ws := fillL (szN (sl.getD i dS).cls) l }) P I V) w w1 := hmv.to (fun b hb => foot_len (List.length_set ..) (fun j => by rw [getD_set hi]; split; (rename_i e; subst e; rfl); rfl) hb)
  have hra1 := h.ra1 har hmv' hW
  have hrd : Reads W M' 1 A' m (wv l) := (hr.mv hM hfar hmv).below (hW.mono (by have := hmv.size; omega))
  refine (rswap_ok hra1 hlr hrd (by have := hmv.size; have := hW.size; omega) (by rw [he.1]; exact hm) (by rw [h.sm.ws i hi hw.live]; exact hx)).mono ?_
  rintro e w2 ⟨rfl, bk, hra2, hrm, hbk⟩
  refine ⟨rfl, _, _, h.both har hmv' (h.ok.setWs hi _) (List.length_set ..) hW hra2 hrm (List.length_set ..) (fun j hj => ?_) (RP.refl _ _) (h.sm.set hi ⟨he.1, he.2.1, he.2.2⟩ (fun _ => ?_)) h.rel (by omega)⟩
  · rw [getD_set (by rw [h.sm.len]; exact hi)]
    split
    · exact .inr hbk
    · exact .inl rfl
  · show fillL (szN (rl.getD i dS).cls) l = fillL (szN (sl.getD i dS).cls) l
    rw [he.1]
/-- Load on both sides. -/
theorem TA.load_ok (h : TA M w0 N B S k G sl P I V xs Q T o cp A rl ys PA PC w) {r : Int} {i : Nat} (hw : Live sl r i) :
    (∀ W, Below w.heap.size w W → Calls Try.prog 16 #[.pointer (some ⟨B, 0, none⟩), .int .i64 r] W fun e w' => ∃ g, e = .returned (.tuple #[.slice (some ⟨g, 0, none⟩) (szN (sl.getD i dS).cls) (szN (sl.getD i dS).cls), .int .i64 0]) ∧ w'.heap[g]? = some (.cells (wv (sl.getD i dS).ws).toArray 35 (0, 0)) ∧ W.heap.size ≤ g ∧ Below W.heap.size W w') ∧
    (∀ W, Below w.heap.size w W → Calls Try.prog 27 #[.pointer (some ⟨Q, 0, none⟩), .int .i64 r] W fun e w' => ∃ A' c', e = .returned (.tuple #[.slice A' (szN (sl.getD i dS).cls) c', .int .i64 0]) ∧ Mid w' W.heap.size 35 1 (.slice A' (szN (sl.getD i dS).cls) c') (szN (sl.getD i dS).cls) (wv (sl.getD i dS).ws) ∧ Below W.heap.size W w') := by
  have hk9 := h.k9
  have hlk := h.len
  refine ⟨fun W hb => Go.Proofs.Ytndmpdpmfieacaa.load_ok (h.ar.on hb) (by omega) hw, fun W hb => ?_⟩
  have := rload_ok (h.ra.on hb) (h.sm.live hw)
  rw [(h.sm.eq i hw.lt).1, h.sm.ws i hw.lt hw.live] at this
  exact this
end
end Go.Proofs.Ytndmpdpmfieacaa

namespace Go.Proofs.Ytndmpdpmfieacaa
open Go.RowKit Go.WideShapes Go.ChangeShapes
set_option linter.all false
attribute [local go_sem ↓] Go.wp_at_zero Go.wp_at_succ
/-- The sum of the first numbers. -/
def sumI (f : Nat → Int) : Nat → Int
  | 0 => 0
  | c + 1 => sumI f c + f c
/-- The first number that can't be, or none. -/
def BadN (f : Nat → Int) : Prop := (∃ c, c < 5 ∧ (f c < 0 ∨ 1024 < f c)) ∨ 1024 < sumI f 5
set_option maxRecDepth 100000 in
set_option maxHeartbeats 1600000 in
theorem rnew_bad (f : Nat → Int) (h : BadN f) (w : World) : Calls Try.prog 26 #[.agg (five f)] w fun e w' => e = .returned (.tuple #[.pointer none, .int .i64 1]) ∧ Below w.heap.size w w' := by
  obtain ⟨W1, hW1⟩ : ∃ W1 : World, W1 = w.alloc (.cells (five f) 22) := ⟨_, rfl⟩
  have b1 : Below w.heap.size w W1 := by rw [hW1]; exact below_alloc w _
  have h1 : W1.heap[w.heap.size]? = some (.cells (five f) 22 (0, 0)) := by rw [hW1]; exact heap_alloc_new w _
  have d0 := (cell_of h1 0).trans (five_at f (by decide : 0 < 5))
  have d1 := (cell_of h1 1).trans (five_at f (by decide : 1 < 5))
  have d2 := (cell_of h1 2).trans (five_at f (by decide : 2 < 5))
  have d3 := (cell_of h1 3).trans (five_at f (by decide : 3 < 5))
  have d4 := (cell_of h1 4).trans (five_at f (by decide : 4 < 5))
  have HB := Lib.hid b1
  have HW := Lib.hid hW1
  have HBAD := Lib.hid h
  clear b1 h1 h hW1
  unfold five at HW ⊢
  go_enter Try.func26, Try.ntmps26
  go_upto_region 2 with (fail)
  rw [← HW.out]
  go_wp2
  go_loop [4, 12] (fun n i => ∃ c : Nat, c ≤ 5 ∧ n = .int .i64 (sumI f c) ∧ i = .int .i64 (c : Nat) ∧ Hid ((∀ d, d < c → 0 ≤ f d ∧ f d ≤ 1024) ∧ 0 ≤ sumI f c ∧ sumI f c ≤ c * 1024)) (fun _ i => 5 - (intOf i).toNat)
  case atStart => exact ⟨0, by omega, rfl, rfl, Lib.hid ⟨fun d hd => absurd hd (by omega), Int.le_refl _, Int.le_refl _⟩⟩
  case round =>
    obtain ⟨c, hc, rfl, rfl, HG⟩ := hrel
    have c00 : (0 : Int) ≤ c := by omega
    clear d0 d1 d2 d3 d4
    by_cases hc5 : c < 5
    · have c05 : (c : Int) < 5 := by omega
      have hidx := fun w => run_index5i c #[.int .i64 (f 0), .int .i64 (f 1), .int .i64 (f 2), .int .i64 (f 3), .int .i64 (f 4)] hc5 (.int .i64 (f c)) (five_at f hc5) w
      obtain ⟨y, hy⟩ : ∃ y, y = f c := ⟨_, rfl⟩
      rw [← hy] at hidx
      obtain ⟨s, hs⟩ : ∃ s, s = sumI f c := ⟨_, rfl⟩
      rw [← hs]
      have HY := Lib.hid hy
      have HS := Lib.hid hs
      have hs0 : 0 ≤ s ∧ s ≤ 5120 := by have := HG.out.2; omega
      clear hy hs
      by_cases h1 : y < 0
      · go_wp2
        go_ret2
        exact ⟨rfl, HB.out⟩
      · by_cases h2 : y > 1024
        · go_wp2
          go_ret2
          exact ⟨rfl, HB.out⟩
        · go_wp2
          go_round
          case rel =>
            have hsum : s + y = sumI f (c + 1) := by rw [HS.out, HY.out]; rfl
            refine ⟨c + 1, by omega, ?_, by go_num, Lib.hid ⟨fun d hd => ?_, ?_, ?_⟩⟩
            · rw [← hsum]
            · rcases Nat.lt_or_ge d c with h3 | h3
              · exact HG.out.1 d h3
              · obtain rfl : d = c := by omega
                rw [← HY.out]
                exact ⟨by omega, by omega⟩
            · rw [← hsum]; omega
            · rw [← hsum]; have := HG.out.2; rw [← HS.out] at this; omega
          case measure => simp only [intOf]; omega
    · obtain rfl : c = 5 := by omega
      have hbig : sumI f 5 > 1024 := by
        rcases HBAD.out with ⟨d, hd, hd2⟩ | h2
        · have := HG.out.1 d hd; omega
        · omega
      generalize sumI f 5 = s at *
      go_wp2
      go_ret2
      exact ⟨rfl, HB.out⟩
set_option maxRecDepth 100000 in
set_option maxHeartbeats 1600000 in
theorem new_bad (f : Nat → Int) (h : BadN f) (w : World) : Calls Try.prog 13 #[.agg (five f)] w fun e w' => e = .returned (.tuple #[.pointer none, .int .i64 1]) ∧ Below w.heap.size w w' := by
  obtain ⟨W1, hW1⟩ : ∃ W1 : World, W1 = w.alloc (.cells (five f) 22) := ⟨_, rfl⟩
  have b1 : Below w.heap.size w W1 := by rw [hW1]; exact below_alloc w _
  have h1 : W1.heap[w.heap.size]? = some (.cells (five f) 22 (0, 0)) := by rw [hW1]; exact heap_alloc_new w _
  have d0 := (cell_of h1 0).trans (five_at f (by decide : 0 < 5))
  have d1 := (cell_of h1 1).trans (five_at f (by decide : 1 < 5))
  have d2 := (cell_of h1 2).trans (five_at f (by decide : 2 < 5))
  have d3 := (cell_of h1 3).trans (five_at f (by decide : 3 < 5))
  have d4 := (cell_of h1 4).trans (five_at f (by decide : 4 < 5))
  have HB := Lib.hid b1
  have HW := Lib.hid hW1
  have HBAD := Lib.hid h
  clear b1 h1 h hW1
  unfold five at HW ⊢
  go_enter Try.func13, Try.ntmps13
  go_upto_region 2 with (fail)
  rw [← HW.out]
  go_wp2
  go_loop [4, 13] (fun n i => ∃ c : Nat, c ≤ 5 ∧ n = .int .i64 (sumI f c) ∧ i = .int .i64 (c : Nat) ∧ Hid ((∀ d, d < c → 0 ≤ f d ∧ f d ≤ 1024) ∧ 0 ≤ sumI f c ∧ sumI f c ≤ c * 1024)) (fun _ i => 5 - (intOf i).toNat)
  case atStart => exact ⟨0, by omega, rfl, rfl, Lib.hid ⟨fun d hd => absurd hd (by omega), Int.le_refl _, Int.le_refl _⟩⟩
  case round =>
    obtain ⟨c, hc, rfl, rfl, HG⟩ := hrel
    have c00 : (0 : Int) ≤ c := by omega
    clear d0 d1 d2 d3 d4
    by_cases hc5 : c < 5
    · have c05 : (c : Int) < 5 := by omega
      have hidx := fun w => run_index5i c #[.int .i64 (f 0), .int .i64 (f 1), .int .i64 (f 2), .int .i64 (f 3), .int .i64 (f 4)] hc5 (.int .i64 (f c)) (five_at f hc5) w
      obtain ⟨y, hy⟩ : ∃ y, y = f c := ⟨_, rfl⟩
      rw [← hy] at hidx
      obtain ⟨s, hs⟩ : ∃ s, s = sumI f c := ⟨_, rfl⟩
      rw [← hs]
      have HY := Lib.hid hy
      have HS := Lib.hid hs
      have hs0 : 0 ≤ s ∧ s ≤ 5120 := by have := HG.out.2; omega
      clear hy hs
      by_cases h1 : y < 0
      · go_wp2
        go_ret2
        exact ⟨rfl, HB.out⟩
      · by_cases h2 : y > 1024
        · go_wp2
          go_ret2
          exact ⟨rfl, HB.out⟩
        · go_wp2
          go_round
          case rel =>
            have hsum : s + y = sumI f (c + 1) := by rw [HS.out, HY.out]; rfl
            refine ⟨c + 1, by omega, ?_, by go_num, Lib.hid ⟨fun d hd => ?_, ?_, ?_⟩⟩
            · rw [← hsum]
            · rcases Nat.lt_or_ge d c with h3 | h3
              · exact HG.out.1 d h3
              · obtain rfl : d = c := by omega
                rw [← HY.out]
                exact ⟨by omega, by omega⟩
            · rw [← hsum]; omega
            · rw [← hsum]; have := HG.out.2; rw [← HS.out] at this; omega
          case measure => simp only [intOf]; omega
    · obtain rfl : c = 5 := by omega
      have hbig : sumI f 5 > 1024 := by
        rcases HBAD.out with ⟨d, hd, hd2⟩ | h2
        · have := HG.out.1 d hd; omega
        · omega
      generalize sumI f 5 = s at *
      go_wp2
      go_ret2
      exact ⟨rfl, HB.out⟩
theorem good_nums (f : Nat → Int) (h : ¬ BadN f) : ∃ ns : Nat → Nat, (∀ c, c < 5 → f c = (ns c : Nat)) ∧ sumN ns 5 ≤ 1024 := by
  have hg : ∀ c, c < 5 → 0 ≤ f c ∧ f c ≤ 1024 := fun c hc => by
    by_cases h1 : f c < 0
    · exact absurd (.inl ⟨c, hc, .inl h1⟩) h
    · by_cases h2 : 1024 < f c
      · exact absurd (.inl ⟨c, hc, .inr h2⟩) h
      · omega
  have hs : ¬ 1024 < sumI f 5 := fun h2 => h (.inr h2)
  refine ⟨fun c => (f c).toNat, fun c hc => by have := hg c hc; show f c = ((f c).toNat : Nat); omega, ?_⟩
  have h0 := hg 0 (by omega)
  have h1 := hg 1 (by omega)
  have h2 := hg 2 (by omega)
  have h3 := hg 3 (by omega)
  have h4 := hg 4 (by omega)
  simp only [sumI] at hs
  simp only [sumN]
  omega
end Go.Proofs.Ytndmpdpmfieacaa

namespace Go.Proofs.Ytndmpdpmfieacaa
open Go.RowKit Go.WideShapes Go.ChangeShapes
set_option linter.all false
set_option maxRecDepth 100000
section
variable {M N B S k G : Nat} {w0 : World} {sl : List Sl} {P I : Nat → Nat} {V : Nat → Value} {xs : Nat → List Int} {Q T o cp : Nat} {A : Option Addr} {rl : List Sl} {ys : Nat → List Int} {PA : Nat → Option Addr} {PC : Nat → Nat} {w w' : World}
theorem TA.store_no (h : TA M w0 N B S k G sl P I V xs Q T o cp A rl ys PA PC w) {r : Int} {z : Nat} (hw : Why sl r z) (hz : z = 1 ∨ z = 3 ∨ z = 4) (A' : Option Addr) (m d : Nat) :
    (∀ W, Below w.heap.size w W → Calls Try.prog 19 #[.pointer (some ⟨B, 0, none⟩), .int .i64 r, .slice A' m d] W fun e w' => e = .returned (.int .i64 (z : Nat)) ∧ w' = W) ∧
    (∀ W, Below w.heap.size w W → Calls Try.prog 30 #[.pointer (some ⟨Q, 0, none⟩), .int .i64 r, .slice A' m d] W fun e w' => e = .returned (.int .i64 (z : Nat)) ∧ w' = W) := by
  have hk9 := h.k9
  have hlk := h.len
  exact ⟨fun W hb => Go.Proofs.Ytndmpdpmfieacaa.store_no (h.ar.on hb) (by omega) hw A' m d, fun W hb => rstore_no (h.ra.on hb) (h.sm.why hw) hz A' m d⟩
theorem TA.swap_no (h : TA M w0 N B S k G sl P I V xs Q T o cp A rl ys PA PC w) {r : Int} {z : Nat} (hw : Why sl r z) (hz : z = 1 ∨ z = 3 ∨ z = 4) (x : Int) (A' : Option Addr) (m d : Nat) :
    (∀ W, Below w.heap.size w W → Calls Try.prog 17 #[.pointer (some ⟨B, 0, none⟩), .int .i64 r, .int .u64 x, .slice A' m d] W fun e w' => e = .returned (.tuple #[.bool false, .int .i64 (z : Nat)]) ∧ w' = W) ∧
    (∀ W, Below w.heap.size w W → Calls Try.prog 31 #[.pointer (some ⟨Q, 0, none⟩), .int .i64 r, .int .u64 x, .slice A' m d] W fun e w' => e = .returned (.tuple #[.bool false, .int .i64 (z : Nat)]) ∧ w' = W) := by
  have hk9 := h.k9
  have hlk := h.len
  exact ⟨fun W hb => Go.Proofs.Ytndmpdpmfieacaa.swap_no (h.ar.on hb) (by omega) hw x A' m d, fun W hb => rswap_no (h.ra.on hb) (h.sm.why hw) hz x A' m d⟩
theorem TA.load_no (h : TA M w0 N B S k G sl P I V xs Q T o cp A rl ys PA PC w) {r : Int} {z : Nat} (hw : Why sl r z) (hz : z = 1 ∨ z = 3 ∨ z = 4) :
    (∀ W, Below w.heap.size w W → Calls Try.prog 16 #[.pointer (some ⟨B, 0, none⟩), .int .i64 r] W fun e w' => e = .returned (.tuple #[.slice none 0 0, .int .i64 (z : Nat)]) ∧ w' = W) ∧
    (∀ W, Below w.heap.size w W → Calls Try.prog 27 #[.pointer (some ⟨Q, 0, none⟩), .int .i64 r] W fun e w' => e = .returned (.tuple #[.slice none 0 0, .int .i64 (z : Nat)]) ∧ w' = W) := by
  have hk9 := h.k9
  have hlk := h.len
  exact ⟨fun W hb => Go.Proofs.Ytndmpdpmfieacaa.load_no (h.ar.on hb) (by omega) hw, fun W hb => rload_no (h.ra.on hb) (h.sm.why hw) hz⟩
theorem TA.store_big (h : TA M w0 N B S k G sl P I V xs Q T o cp A rl ys PA PC w) {r : Int} {i : Nat} (hw : Live sl r i) (A' : Option Addr) (m d : Nat) (hm : szN (sl.getD i dS).cls < m) :
    (∀ W, Below w.heap.size w W → Calls Try.prog 19 #[.pointer (some ⟨B, 0, none⟩), .int .i64 r, .slice A' m d] W fun e w' => e = .returned (.int .i64 1) ∧ w' = W) ∧
    (∀ W, Below w.heap.size w W → Calls Try.prog 30 #[.pointer (some ⟨Q, 0, none⟩), .int .i64 r, .slice A' m d] W fun e w' => e = .returned (.int .i64 1) ∧ w' = W) := by
  have hk9 := h.k9
  have hlk := h.len
  exact ⟨fun W hb => Go.Proofs.Ytndmpdpmfieacaa.store_big (h.ar.on hb) (by omega) hw A' m d hm, fun W hb => rstore_big (h.ra.on hb) (h.sm.live hw) A' m d (by rw [(h.sm.eq i hw.lt).1]; exact hm)⟩
theorem TA.swap_big (h : TA M w0 N B S k G sl P I V xs Q T o cp A rl ys PA PC w) {r : Int} {i : Nat} (hw : Live sl r i) (x : Int) (A' : Option Addr) (m d : Nat) (hm : szN (sl.getD i dS).cls < m) :
    (∀ W, Below w.heap.size w W → Calls Try.prog 17 #[.pointer (some ⟨B, 0, none⟩), .int .i64 r, .int .u64 x, .slice A' m d] W fun e w' => e = .returned (.tuple #[.bool false, .int .i64 1]) ∧ w' = W) ∧
    (∀ W, Below w.heap.size w W → Calls Try.prog 31 #[.pointer (some ⟨Q, 0, none⟩), .int .i64 r, .int .u64 x, .slice A' m d] W fun e w' => e = .returned (.tuple #[.bool false, .int .i64 1]) ∧ w' = W) := by
  have hk9 := h.k9
  have hlk := h.len
  exact ⟨fun W hb => Go.Proofs.Ytndmpdpmfieacaa.swap_big (h.ar.on hb) (by omega) hw x A' m d hm, fun W hb => rswap_big (h.ra.on hb) (h.sm.live hw) x A' m d (by rw [(h.sm.eq i hw.lt).1]; exact hm)⟩
theorem TA.swap_ne (h : TA M w0 N B S k G sl P I V xs Q T o cp A rl ys PA PC w) {r : Int} {i : Nat} (hw : Live sl r i) {x : Int} {M' m d : Nat} {A' : Option Addr} {l : List Int} (hr : Reads w M' 1 A' m (wv l)) (hM : M' ≤ w.heap.size) (hm : m ≤ szN (sl.getD i dS).cls) (hx : (sl.getD i dS).ws.getD 0 0 ≠ x) :
    (∀ W, Below w.heap.size w W → Calls Try.prog 17 #[.pointer (some ⟨B, 0, none⟩), .int .i64 r, .int .u64 x, .slice A' m d] W fun e w' => e = .returned (.tuple #[.bool false, .int .i64 0]) ∧ w' = W) ∧
    (∀ W, Below w.heap.size w W → Calls Try.prog 31 #[.pointer (some ⟨Q, 0, none⟩), .int .i64 r, .int .u64 x, .slice A' m d] W fun e w' => e = .returned (.tuple #[.bool false, .int .i64 0]) ∧ w' = W) := by
  have hk9 := h.k9
  have hlk := h.len
  exact ⟨fun W hb => Go.Proofs.Ytndmpdpmfieacaa.swap_ne (h.ar.on hb) (by omega) hw x A' m d hm hx, fun W hb => rswap_ne (h.ra.on hb) (h.sm.live hw) (hr.below (hb.mono hM)) (by have := hb.size; omega) (by rw [(h.sm.eq i hw.lt).1]; exact hm) (by rw [h.sm.ws i hw.lt hw.live]; exact hx)⟩
theorem TA.alloc_full (h : TA M w0 N B S k G sl P I V xs Q T o cp A rl ys PA PC w) {c : Nat} (hc : c < 5) (A' : Option Addr) (m d : Nat) (hm : m ≤ szN c) (hx : xs c = []) :
    (∀ W, Below w.heap.size w W → Calls Try.prog 23 #[.pointer (some ⟨B, 0, none⟩), .int .i64 (c : Nat), .slice A' m d] W fun e w' => e = .returned (.tuple #[.int .i64 0, .int .i64 2]) ∧ w' = W) ∧
    (∀ W, Below w.heap.size w W → Calls Try.prog 28 #[.pointer (some ⟨Q, 0, none⟩), .int .i64 (c : Nat), .slice A' m d] W fun e w' => e = .returned (.tuple #[.int .i64 0, .int .i64 2]) ∧ w' = W) := by
  have hk9 := h.k9
  have hlk := h.len
  exact ⟨fun W hb => Go.Proofs.Ytndmpdpmfieacaa.alloc_full (h.ar.on hb) c A' m d hc hm hx, fun W hb => ralloc_full (h.ra.on hb) hc A' m d hm (Rel.nil (hx ▸ h.rel c hc))⟩
theorem TA.alloc_long (h : TA M w0 N B S k G sl P I V xs Q T o cp A rl ys PA PC w) {c : Nat} (hc : c < 5) (A' : Option Addr) (m d : Nat) (hm : szN c < m) :
    (∀ W, Below w.heap.size w W → Calls Try.prog 23 #[.pointer (some ⟨B, 0, none⟩), .int .i64 (c : Nat), .slice A' m d] W fun e w' => e = .returned (.tuple #[.int .i64 0, .int .i64 1]) ∧ w' = W) ∧
    (∀ W, Below w.heap.size w W → Calls Try.prog 28 #[.pointer (some ⟨Q, 0, none⟩), .int .i64 (c : Nat), .slice A' m d] W fun e w' => e = .returned (.tuple #[.int .i64 0, .int .i64 1]) ∧ w' = W) := by
  have hk9 := h.k9
  have hlk := h.len
  exact ⟨fun W hb => Go.Proofs.Ytndmpdpmfieacaa.alloc_long _ c A' m d W hc hm, fun W hb => ralloc_long _ c A' m d W hc hm⟩
theorem TA.alloc_bad (h : TA M w0 N B S k G sl P I V xs Q T o cp A rl ys PA PC w) {c : Int} (hc : c < 0 ∨ 5 ≤ c) (A' : Option Addr) (m d : Nat) :
    (∀ W, Below w.heap.size w W → Calls Try.prog 23 #[.pointer (some ⟨B, 0, none⟩), .int .i64 c, .slice A' m d] W fun e w' => e = .returned (.tuple #[.int .i64 0, .int .i64 1]) ∧ w' = W) ∧
    (∀ W, Below w.heap.size w W → Calls Try.prog 28 #[.pointer (some ⟨Q, 0, none⟩), .int .i64 c, .slice A' m d] W fun e w' => e = .returned (.tuple #[.int .i64 0, .int .i64 1]) ∧ w' = W) := by
  have hk9 := h.k9
  have hlk := h.len
  exact ⟨fun W hb => Go.Proofs.Ytndmpdpmfieacaa.alloc_bad _ c A' m d W hc, fun W hb => ralloc_bad _ c A' m d W hc⟩
end
end Go.Proofs.Ytndmpdpmfieacaa

namespace Go.Proofs.Ytndmpdpmfieacaa
open Go.RowKit Go.WideShapes Go.ChangeShapes
set_option linter.all false
set_option maxRecDepth 100000
def slR (s : Sl) : List Value := [.int .i64 (s.cls : Nat), .int .i64 (s.gen : Nat), .bool s.live, .slice (some ⟨s.blk, 0, none⟩) (szN s.cls) (szN s.cls)]
def flR : List Sl → List Value
  | [] => []
  | s :: r => slR s ++ flR r
theorem flR_len : ∀ sl : List Sl, (flR sl).length = sl.length * 4
  | [] => rfl
  | s :: r => by
    show (slR s ++ flR r).length = _
    rw [List.length_append, flR_len r, List.length_cons]
    show 4 + _ = _
    omega
theorem flR_snoc : ∀ (sl : List Sl) (s : Sl), flR (sl ++ [s]) = flR sl ++ slR s
  | [], s => by show slR s ++ [] = [] ++ slR s; simp
  | t :: r, s => by
    show slR t ++ flR (r ++ [s]) = slR t ++ flR r ++ slR s
    rw [flR_snoc r s, List.append_assoc]
theorem flR_at : ∀ (sl : List Sl) (i j : Nat), i < sl.length → j < 4 → (flR sl)[i * 4 + j]? = (slR (sl.getD i dS))[j]?
  | [], i, j, hi, hj => absurd hi (by simp)
  | s :: r, 0, j, hi, hj => by
    show (slR s ++ flR r)[0 * 4 + j]? = (slR s)[j]?
    rw [List.getElem?_append_left (by show _ < 4; omega), Nat.zero_mul, Nat.zero_add]
  | s :: r, i + 1, j, hi, hj => by
    show (slR s ++ flR r)[(i + 1) * 4 + j]? = _
    rw [List.getElem?_append_right (by show 4 ≤ _; omega)]
    have : (i + 1) * 4 + j - (slR s).length = i * 4 + j := by show (i + 1) * 4 + j - 4 = _; omega
    rw [this, flR_at r i j (by simpa using hi) hj]
    rfl
/-- The reference's new arena on its way: the pools below q have their numbers' bound. -/
structure RN (N Q q k : Nat) (v : Value) (sl : List Sl) (ys : Nat → List Int) (PA : Nat → Option Addr) (PC : Nat → Nat) (w : World) : Prop where
  c0 : w.cell? ⟨Q, 0, none⟩ = some v
  fr : ∀ x, w.frozen? ⟨Q, x, none⟩ = false
  row : Mid w N 69 4 v sl.length (flR sl)
  wds : ∀ i, i < sl.length → w.heap[(sl.getD i dS).blk]? = some (.cells (wv (sl.getD i dS).ws).toArray 35 (0, 0)) ∧ (sl.getD i dS).ws.length = szN (sl.getD i dS).cls ∧ (sl.getD i dS).cls < 5
  pl : ∀ c, c < 5 → RefP Q (1 + c * 2) 0 (if c < q then (k : Int) else 0) (PA c) (PC c) (ys c) w
  nQ : N ≤ Q
  ql : Q < w.heap.size
  vq : ∀ g, v.ownBlock = some g → g ≠ Q
  wt : ∀ i, i < sl.length → (sl.getD i dS).blk ≠ Q ∧ N ≤ (sl.getD i dS).blk
  pt : ∀ c, c < 5 → ∀ ad, PA c = some ad → N ≤ ad.block ∧ ad.block < w.heap.size ∧ ad.block ≠ Q ∧ ∀ g, v.ownBlock = some g → ad.block ≠ g
  pcm : ∀ c, c < 5 → PC c ≤ maxLen
section
variable {N Q q k : Nat} {v : Value} {sl : List Sl} {ys : Nat → List Int} {PA : Nat → Option Addr} {PC : Nat → Nat} {w w' : World}
theorem Mid.heapT {base size n : Nat} {t : TypeId} {xs : List Value} (h : Mid w base t size v n xs) {g : Nat} (hg : v.ownBlock = some g) : ∃ cur, w.heap[g]? = some (.cells cur t (0, 0)) := by
  rcases h.2 with ⟨rfl, _⟩ | ⟨g', off, cap, cur, rfl, hb, hh, _⟩
  · cases hg
  · have e : g' = g := by simpa [Value.ownBlock] using hg
    subst e
    exact ⟨cur, hh⟩
theorem RN.bg (h : RN N Q q k v sl ys PA PC w) {i g : Nat} (hi : i < sl.length) (hg : v.ownBlock = some g) : (sl.getD i dS).blk ≠ g := by
  intro e
  obtain ⟨cur, hc⟩ := h.row.heapT hg
  have := (h.wds i hi).1
  rw [e, hc] at this
  simp only [Option.some.injEq, Obj.cells.injEq] at this
  exact absurd this.2.1 (by decide)
theorem RefP.same {Q o B c : Nat} {most : Int} {A : Option Addr} {ys : List Int} (h : RefP Q o B most A c ys w) (hs : w.heap.size ≤ w'.heap.size) (h0 : w'.cell? ⟨Q, o, none⟩ = w.cell? ⟨Q, o, none⟩) (h1 : w'.cell? ⟨Q, o + 1, none⟩ = w.cell? ⟨Q, o + 1, none⟩) (h2 : w'.frozen? ⟨Q, o + 1, none⟩ = w.frozen? ⟨Q, o + 1, none⟩) (hb : ∀ ad, A = some ad → w'.heap[ad.block]? = w.heap[ad.block]?) : RefP Q o B most A c ys w' :=
  ⟨h0.trans h.c0, h1.trans h.c1, h2.trans h.f1, ⟨h.rd.1, fun hn => by
    obtain ⟨ad, e1, hlt, hc⟩ := h.rd.2 hn
    exact ⟨ad, e1, Nat.lt_of_lt_of_le hlt hs, fun j u hu => by
      have := World.cell?_of_block (a := ad.add j) (w := w) (w' := w') (by rw [block_of_add]; exact hb ad e1)
      rw [this]; exact hc j u hu⟩⟩, h.cap, h.far⟩
theorem RN.on (h : RN N Q q k v sl ys PA PC w) (hb : Below w.heap.size w w') : RN N Q q k v sl ys PA PC w' :=
  ⟨(hb.cell (p := ⟨Q, 0, none⟩) h.ql).trans h.c0, fun x => (hb.frozen (p := ⟨Q, x, none⟩) h.ql).trans (h.fr x), h.row.same (fun g hg => hb.block g (h.row.lt g hg).2), fun i hi => ⟨(hb.block _ (lt_of_heap (h.wds i hi).1)).trans (h.wds i hi).1, (h.wds i hi).2⟩, fun c hc => (h.pl c hc).on hb, h.nQ, Nat.lt_of_lt_of_le h.ql hb.size, h.vq, h.wt, fun c hc ad e => by have := h.pt c hc ad e; exact ⟨this.1, Nat.lt_of_lt_of_le this.2.1 hb.size, this.2.2⟩, h.pcm⟩
/-- A pool's bound is set. -/
theorem RN.most (h : RN N Q q k v sl ys PA PC w) (hq : q < 5) : RN N Q (q + 1) k v sl ys PA PC (w.setCell ⟨Q, 1 + q * 2, none⟩ (.int .i64 (k : Nat))) := by
  have oth : ∀ y, y ≠ 1 + q * 2 → ∀ u, (w.setCell ⟨Q, 1 + q * 2, none⟩ u).cell? ⟨Q, y, none⟩ = w.cell? ⟨Q, y, none⟩ := fun y hy u => World.cell?_setCell_other _ _ _ _ (ne_at (Ne.symm hy))
  refine ⟨(oth 0 (by omega) _).trans h.c0, fun x => by rw [World.frozen?_setCell]; exact h.fr x, h.row.same (fun g hg => heap_far _ _ _ (by exact h.vq g hg)), fun i hi => ⟨(heap_far _ _ _ (by exact (h.wt i hi).1)).trans (h.wds i hi).1, (h.wds i hi).2⟩, fun c hc => ?_, h.nQ, by simpa using h.ql, h.vq, h.wt, fun c hc ad e => by simpa using h.pt c hc ad e, h.pcm⟩
  have hp := h.pl c hc
  by_cases e : c = q
  · subst e
    rw [if_pos (by omega)]
    rw [if_neg (by omega)] at hp
    exact ⟨World.cell?_setCell_same _ _ _ hp.c0, (oth _ (by omega) _).trans hp.c1, by rw [World.frozen?_setCell]; exact hp.f1, ⟨hp.rd.1, fun hn => by
      obtain ⟨ad, e1, hlt, hcc⟩ := hp.rd.2 hn
      exact ⟨ad, e1, by simpa using hlt, fun j u hu => (World.cell?_setCell_far _ _ _ _ (by rw [block_of_add]; exact Ne.symm (hp.far ad e1))).trans (hcc j u hu)⟩⟩, hp.cap, hp.far⟩
  · have e2 : (if c < q + 1 then (k : Int) else 0) = if c < q then (k : Int) else 0 := by
      by_cases e3 : c < q
      · rw [if_pos e3, if_pos (by omega)]
      · rw [if_neg e3, if_neg (by omega)]
    rw [e2]
    exact hp.same (by simp) (oth _ (by omega) _) (oth _ (by omega) _) (by rw [World.frozen?_setCell]) (fun ad e => heap_far _ _ _ (by exact hp.far ad e))
/-- A number is put into a pool. -/
theorem RN.put (h : RN N Q q k v sl ys PA PC w) {c : Nat} {n : Int} (hc : c < q) (hq : q ≤ 5) (h0 : 0 ≤ n) (h9 : n < k) (hne : n ∉ ys c) (hyl : (ys c).length < 900000) :
    Calls Try.prog 57 #[.pointer (some ⟨Q, 1 + c * 2, none⟩), .int .i64 n] w fun e w' => e = .returned (.bool true) ∧ ∃ i A' C', i ≤ (ys c).length ∧ (∀ m, m < i → (ys c).getD m 0 < n) ∧ (i < (ys c).length → n < (ys c).getD i 0) ∧ RN N Q q k v sl (up ys c (insF (ys c) n i)) (up PA c A') (up PC c C') w' ∧ KeptR Q (1 + c * 2) w w' := by
  have hp := h.pl c (by omega)
  rw [if_pos hc] at hp
  refine (rput_in Q (1 + c * 2) k n (PA c) (PC c) (ys c) w hp hyl h0 h9 hne).mono ?_
  rintro e w' ⟨rfl, hok⟩
  obtain ⟨i, A', C', hi, hb, ha, hr, hk, hC, hA⟩ := hok.refp hp
  refine ⟨rfl, i, A', C', hi, hb, ha, ?_, hk⟩
  have hpb : ∀ ad, A' = some ad → ad.block < w'.heap.size := fun ad e => by
    have hl : 0 < (insF (ys c) n i).length := by unfold insF; simp; omega
    obtain ⟨ad', e', hlt, _⟩ := hr.rd.2 hl
    rw [e] at e'; cases e'; exact hlt
  have hql := h.ql
  refine ⟨(hk.cells 0 (by omega)).trans h.c0, fun x => (hk.frz x).trans (h.fr x), h.row.same (fun g hg => hk.block g (h.row.lt g hg).2 (h.vq g hg)), fun i hi => ⟨(hk.block _ (lt_of_heap (h.wds i hi).1) (h.wt i hi).1).trans (h.wds i hi).1, (h.wds i hi).2⟩, fun d hd => ?_, h.nQ, Nat.lt_of_lt_of_le h.ql hk.size, h.vq, h.wt, fun d hd ad e => ?_, fun d hd => ?_⟩
  · by_cases e : d = c
    · subst e; rw [up_same, up_same, up_same, if_pos hc]; exact hr
    · rw [up_other _ _ e, up_other _ _ e, up_other _ _ e]
      exact (h.pl d hd).same hk.size (hk.cells _ (by omega)) (hk.cells _ (by omega)) (hk.frz _) (fun ad e => hk.block _ (h.pt d hd ad e).2.1 (h.pt d hd ad e).2.2.1)
  · by_cases e2 : d = c
    · subst e2
      rw [up_same] at e
      have h1 := hA ad e
      have hNQ := h.nQ
      exact ⟨by omega, hpb ad e, by omega, fun g hg => by have := (h.row.lt g hg).2; omega⟩
    · rw [up_other _ _ e2] at e
      have := h.pt d hd ad e
      exact ⟨this.1, Nat.lt_of_lt_of_le this.2.1 hk.size, this.2.2⟩
  · by_cases e2 : d = c
    · subst e2; rw [up_same]; exact hC
    · rw [up_other _ _ e2]; exact h.pcm d hd
/-- A slot is appended. -/
theorem RN.push (h : RN N Q q k v sl ys PA PC w) {v' : Value} {c b : Nat} (hc : c < 5) (hm : Mid w' N 69 4 v' (sl.length + 1) (flR sl ++ slR (newSl c b))) (hr : Ran v v' w w') (hb : w.heap[b]? = some (.cells (List.replicate (szN c) (Value.int .u64 poisonV)).toArray 35 (0, 0))) (hbQ : b ≠ Q) (hbN : N ≤ b) (hNw : N ≤ w.heap.size) :
    RN N Q q k v' (sl ++ [newSl c b]) ys PA PC (w'.setCell ⟨Q, 0, none⟩ v') := by
  have hg := hr.grown
  have hsz := hg.size
  have hql := h.ql
  have hvQ : some Q ≠ v.ownBlock := fun e => h.vq Q e.symm rfl
  have eQ : ∀ x, w'.cell? ⟨Q, x, none⟩ = w.cell? ⟨Q, x, none⟩ := fun x => hg.cell_far ⟨Q, x, none⟩ hql hvQ
  have fQ : ∀ x, w'.frozen? ⟨Q, x, none⟩ = w.frozen? ⟨Q, x, none⟩ := fun x => hg.frozen_far ⟨Q, x, none⟩ hql hvQ
  have hv' : ∀ g, v'.ownBlock = some g → g ≠ Q := fun g e => by
    rcases hr.at_ with h1 | h1
    · exact h.vq g (h1 ▸ e)
    · have := h1 g e; omega
  have hbv : ∀ g, v.ownBlock = some g → b ≠ g := fun g e e2 => by
    obtain ⟨cur, hcur⟩ := h.row.heapT e
    rw [← e2, hb] at hcur
    simp only [Option.some.injEq, Obj.cells.injEq] at hcur
    exact absurd hcur.2.1 (by decide)
  have oth : ∀ y, y ≠ 0 → ∀ u, (w'.setCell ⟨Q, 0, none⟩ u).cell? ⟨Q, y, none⟩ = w'.cell? ⟨Q, y, none⟩ := fun y hy u => World.cell?_setCell_other _ _ _ _ (ne_at (Ne.symm hy))
  have gl : ∀ i, i < sl.length → (sl ++ [newSl c b]).getD i dS = sl.getD i dS := fun i hi => by rw [sl_snoc, if_pos hi]
  have gn : (sl ++ [newSl c b]).getD sl.length dS = newSl c b := by rw [sl_snoc, if_neg (Nat.lt_irrefl _), if_pos rfl]
  refine ⟨World.cell?_setCell_same _ _ _ ((eQ 0).trans h.c0), fun x => by rw [World.frozen?_setCell, fQ]; exact h.fr x, ?_, fun i hi => ?_, fun d hd => ?_, h.nQ, by simpa using Nat.lt_of_lt_of_le hql hsz, hv', fun i hi => ?_, fun d hd ad e => ?_, h.pcm⟩
  · rw [List.length_append, flR_snoc]
    exact hm.same (fun g e => heap_far _ _ _ (by exact hv' g e))
  · rw [List.length_append, List.length_singleton] at hi
    by_cases e : i < sl.length
    · rw [gl i e]
      refine ⟨(heap_far _ _ _ (by exact (h.wt i e).1)).trans ((hg.block _ (lt_of_heap (h.wds i e).1) (fun e2 => h.bg e e2.symm rfl)).trans (h.wds i e).1), (h.wds i e).2⟩
    · obtain rfl : i = sl.length := by omega
      rw [gn]
      refine ⟨(heap_far _ _ _ (by exact hbQ)).trans ((hg.block _ (lt_of_heap hb) (fun e2 => hbv _ e2.symm rfl)).trans (hb.trans ?_)), by simp [newSl], hc⟩
      simp [newSl, wv]
  · exact (h.pl d hd).same (by simpa using hsz) ((oth _ (by omega) _).trans (eQ _)) ((oth _ (by omega) _).trans (eQ _)) (by rw [World.frozen?_setCell, fQ]) (fun ad e => (heap_far _ _ _ (by exact (h.pt d hd ad e).2.2.1)).trans (hg.block _ (h.pt d hd ad e).2.1 (fun e2 => (h.pt d hd ad e).2.2.2 _ e2.symm rfl)))
  · rw [List.length_append, List.length_singleton] at hi
    by_cases e : i < sl.length
    · rw [gl i e]; exact h.wt i e
    · obtain rfl : i = sl.length := by omega
      rw [gn]; exact ⟨hbQ, hbN⟩
  · have := h.pt d hd ad e
    refine ⟨this.1, by simpa using Nat.lt_of_lt_of_le this.2.1 hsz, this.2.2.1, fun g e2 => ?_⟩
    rcases hr.at_ with h1 | h1
    · exact this.2.2.2 g (h1 ▸ e2)
    · have := h1 g e2; omega
/-- All is there. -/
theorem RN.done (h : RN N Q 5 k v sl ys PA PC w) (hl : sl.length ≤ 1024) (hy : ∀ c, c < 5 → (ys c).length ≤ 1024) (hN : N ≤ w.heap.size) :
    ∃ T o cp A, RA Q T o cp k A sl ys PA PC w ∧ N ≤ T ∧ ∀ b, RFoot Q T sl PA b → N ≤ b ∧ b < w.heap.size := by
  have hpl : ∀ c, c < 5 → RefP Q (1 + c * 2) 0 k (PA c) (PC c) (ys c) w := fun c hc => by have := h.pl c hc; rwa [if_pos hc] at this
  obtain ⟨A, cp, hv⟩ := h.row.form
  by_cases h0 : 0 < sl.length
  · rcases h.row.2 with ⟨_, h'⟩ | ⟨g, off, cap, cur, hv2, hbg, hh, hn, hc, hs, hx⟩
    · omega
    · have hrow := h.row
      rw [hv2] at hrow
      have hcl : ∀ i j, i < sl.length → j < 4 → w.cell? ⟨g, off + i * 4 + j, none⟩ = (slR (sl.getD i dS))[j]? := fun i j hi hj => by
        have hlen : j < (slR (sl.getD i dS)).length := by show j < 4; omega
        rw [List.getElem?_eq_getElem hlen, Nat.add_assoc]
        exact hrow.cells (i * 4 + j) _ ((flR_at sl i j hi hj).trans (List.getElem?_eq_getElem hlen))
      have hgQ : g ≠ Q := h.vq g (by rw [hv2]; rfl)
      have hown : v.ownBlock = some g := by rw [hv2]; rfl
      refine ⟨g, off, cap, some ⟨g, off, none⟩, ⟨by rw [h.c0, hv2], fun _ => rfl, ⟨fun i hi => by simpa [slR] using hcl i 0 hi (by omega), fun i hi => by simpa [slR] using hcl i 1 hi (by omega), fun i hi => by simpa [slR] using hcl i 2 hi (by omega), fun i hi => by simpa [slR] using hcl i 3 hi (by omega), fun i hi j => by simp [World.frozen?, hh]⟩, h.wds, hpl, hl, Ne.symm hgQ, fun i hi => ⟨h.bg hi hown, (h.wt i hi).1⟩, fun c hc ad e => (h.pt c hc ad e).2.2.2 g hown, fun _ => (h.row.lt g hown).2, h.ql, h.pcm, hy, fun c hc ad e => (h.pt c hc ad e).2.1⟩, hbg, fun b hb => ?_⟩
      rcases hb with rfl | ⟨rfl, _⟩ | ⟨i, hi, rfl⟩ | ⟨c, ad, hc, e, rfl⟩
      · exact ⟨h.nQ, h.ql⟩
      · exact ⟨hbg, (h.row.lt _ hown).2⟩
      · exact ⟨(h.wt i hi).2, lt_of_heap (h.wds i hi).1⟩
      · exact ⟨(h.pt c hc ad e).1, (h.pt c hc ad e).2.1⟩
  · have hql := h.ql
    refine ⟨w.heap.size, 0, cp, A, ⟨by rw [h.c0, hv], fun h' => absurd h' h0, ⟨fun i hi => absurd hi (by omega), fun i hi => absurd hi (by omega), fun i hi => absurd hi (by omega), fun i hi => absurd hi (by omega), fun i hi => absurd hi (by omega)⟩, h.wds, hpl, hl, by omega, fun i hi => absurd hi (by omega), fun c hc ad e => by have := (h.pt c hc ad e).2.1; omega, fun h' => absurd h' h0, h.ql, h.pcm, hy, fun c hc ad e => (h.pt c hc ad e).2.1⟩, hN, fun b hb => ?_⟩
    rcases hb with rfl | ⟨rfl, h'⟩ | ⟨i, hi, rfl⟩ | ⟨c, ad, hc, e, rfl⟩
    · exact ⟨h.nQ, h.ql⟩
    · exact absurd h' h0
    · exact absurd hi (by omega)
    · exact ⟨(h.pt c hc ad e).1, (h.pt c hc ad e).2.1⟩
end
end Go.Proofs.Ytndmpdpmfieacaa

namespace Go.Proofs.Ytndmpdpmfieacaa
open Go.RowKit Go.WideShapes Go.ChangeShapes
set_option linter.all false
set_option maxRecDepth 100000
attribute [local go_sem ↓] Go.wp_at_zero Go.wp_at_succ
def AnyW (_ : World) : Prop := True
theorem info69 : (Try.prog.info? 69).map (fun i => (i.zero, i.size, i.bytes)) = some (some (.agg #[.int .i64 0, .int .i64 0, .bool false, .slice none 0 0]), 4, 48) := by kernel_rfl
/-- On its way: the slots of all classes below c, and j of c. -/
def NR (ns : Nat → Nat) (w : World) (Q k q c j : Nat) (W : World) : Prop :=
  ∃ v sl ys PA PC xs, RN w.heap.size Q q k v sl ys PA PC W ∧ Below w.heap.size w W ∧ Fr ns c j sl xs ∧ (∀ d, (ys d).Pairwise (· < ·)) ∧ (∀ d z, z ∈ ys d ↔ z ∈ xs d) ∧ (∀ d, (ys d).length = (xs d).length)
theorem NR.next {ns : Nat → Nat} {w W : World} {Q k q c : Nat} (h : NR ns w Q k q c (ns c) W) : NR ns w Q k q (c + 1) 0 W := by
  obtain ⟨v, sl, ys, PA, PC, xs, h1, h2, h3, h4, h5, h6⟩ := h
  exact ⟨v, sl, ys, PA, PC, xs, h1, h2, h3.next, h4, h5, h6⟩
theorem NR.on {ns : Nat → Nat} {w W W' : World} {Q k q c j : Nat} (h : NR ns w Q k q c j W) (hb : Below W.heap.size W W') : NR ns w Q k q c j W' := by
  obtain ⟨v, sl, ys, PA, PC, xs, h1, h2, h3, h4, h5, h6⟩ := h
  exact ⟨v, sl, ys, PA, PC, xs, h1.on hb, h2.trans (hb.mono h2.size), h3, h4, h5, h6⟩
theorem NR.first {ns : Nat → Nat} {w W : World} {Q k : Nat} (hQ : W.heap[Q]? = some (.cells #[.slice none 0 0, .int .i64 0, .slice none 0 0, .int .i64 0, .slice none 0 0, .int .i64 0, .slice none 0 0, .int .i64 0, .slice none 0 0, .int .i64 0, .slice none 0 0] 67 (0, 0))) (hb : Below w.heap.size w W) (hn : w.heap.size ≤ Q) : NR ns w Q k 0 0 0 W := by
  have c := fun x => cell_of hQ x
  have fr : ∀ x, W.frozen? ⟨Q, x, none⟩ = false := fun x => frozen_of hQ x
  refine ⟨.slice none 0 0, [], fun _ => [], fun _ => none, fun _ => 0, fun _ => [], ⟨(c 0).trans rfl, fr, Mid.nil _ _ _ _, fun i hi => absurd hi (by simp), fun d hd => ?_, hn, lt_of_heap hQ, fun g hg => (by cases hg), fun i hi => absurd hi (by simp), fun d hd ad e => (by cases e), fun d hd => Nat.zero_le _⟩, hb, Fr.nil ns, fun d => List.Pairwise.nil, fun d z => Iff.rfl, fun d => rfl⟩
  rw [if_neg (by omega)]
  have : d = 0 ∨ d = 1 ∨ d = 2 ∨ d = 3 ∨ d = 4 := by omega
  rcases this with rfl | rfl | rfl | rfl | rfl <;> exact ⟨(c _).trans rfl, (c _).trans rfl, fr _, ⟨rfl, fun h => absurd h (by simp)⟩, Nat.le_refl _, fun ad e => (by cases e)⟩
theorem NR.most {ns : Nat → Nat} {w W : World} {Q k c : Nat} (h : NR ns w Q k c c 0 W) (hc : c < 5) : NR ns w Q k (c + 1) c 0 (W.setCell ⟨Q, 1 + c * 2, none⟩ (.int .i64 (k : Nat))) := by
  obtain ⟨v, sl, ys, PA, PC, xs, h1, h2, h3, h4, h5, h6⟩ := h
  exact ⟨v, sl, ys, PA, PC, xs, h1.most hc, h2.setCell (p := ⟨Q, 1 + c * 2, none⟩) h1.nQ _, h3, h4, h5, h6⟩
/-- A number is put, its slot isn't there yet. -/
structure NP (ns : Nat → Nat) (w : World) (Q k c j : Nat) (v : Value) (sl : List Sl) (ys : Nat → List Int) (PA : Nat → Option Addr) (PC : Nat → Nat) (xs : Nat → List Int) (W : World) : Prop where
  rn : RN w.heap.size Q (c + 1) k v sl ys PA PC W
  bel : Below w.heap.size w W
  fr : Fr ns c j sl xs
  srt : ∀ d, (ys d).Pairwise (· < ·)
  mem : ∀ d z, z ∈ ys d ↔ z ∈ up xs c (pushF (xs c) (sl.length : Nat)) d
  ln : ∀ d, (ys d).length = (up xs c (pushF (xs c) (sl.length : Nat)) d).length
theorem NR.put {ns : Nat → Nat} {w W : World} {Q k c j : Nat} (h : NR ns w Q k (c + 1) c j W) (hc : c < 5) (hk : sumN ns c + j < k) (hk9 : k ≤ 1024) :
    Calls Try.prog 57 #[.pointer (some ⟨Q, 1 + c * 2, none⟩), .int .i64 (sumN ns c + j : Nat)] W fun e w' => e = .returned (.bool true) ∧ ∃ v sl ys PA PC xs, NP ns w Q k c j v sl ys PA PC xs w' := by
  obtain ⟨v, sl, ys, PA, PC, xs, h1, h2, h3, h4, h5, h6⟩ := h
  have hl := h3.len
  rw [← hl]
  have hne : ((sl.length : Nat) : Int) ∉ ys c := fun hm => h3.not_mem c ((h5 c _).1 hm)
  have hyl : (ys c).length < 900000 := by rw [h6 c, h3.cnt c, if_neg (Nat.lt_irrefl _), if_pos rfl]; omega
  refine (h1.put (by omega) (by omega) (by omega) (by omega) hne hyl).mono ?_
  rintro e w' ⟨rfl, i, A', C', hi, hb, ha, hrn, hkp⟩
  refine ⟨rfl, v, sl, _, _, _, xs, ⟨hrn, ⟨hkp.os.trans h2.os, hkp.tape.trans h2.tape, hkp.output.trans h2.output, Nat.le_trans h2.size hkp.size, fun b hbn => (hkp.block b (by have := h2.size; omega) (by have := h1.nQ; omega)).trans (h2.block b hbn)⟩, h3, fun d => ?_, fun d z => ?_, fun d => ?_⟩⟩
  · by_cases e : d = c
    · subst e; rw [up_same]; exact insF_sorted (h4 d) hi hb ha
    · rw [up_other _ _ e]; exact h4 d
  · by_cases e : d = c
    · subst e
      rw [up_same, up_same, insF_mem, (pushF_perm _ _).mem_iff, List.mem_cons, h5 d z]
    · rw [up_other _ _ e, up_other _ _ e]; exact h5 d z
  · by_cases e : d = c
    · subst e
      rw [up_same, up_same, pushF_len, ← h6 d]
      unfold insF; simp; omega
    · rw [up_other _ _ e, up_other _ _ e]; exact h6 d
set_option maxHeartbeats 3200000 in
theorem rnew_ok (ns : Nat → Nat) (hk : sumN ns 5 ≤ 1024) (w : World) : Calls Try.prog 26 #[nsV ns] w fun e w' => ∃ Q, e = .returned (.tuple #[.pointer (some ⟨Q, 0, none⟩), .int .i64 0]) ∧ NR ns w Q (sumN ns 5) 5 5 0 w' := by
  have hm : ∀ c, c < 5 → sumN ns (c + 1) ≤ sumN ns 5 := fun c hc => sumN_mono ns (by omega)
  have hix : ∀ c, c < 5 → ∀ W, (Instr.index 22 (nsV ns) (.int .i64 (c : Nat))).run Try.prog W = .ok (.int .i64 (ns c : Nat)) W := fun c hc W => run_index5i c _ hc _ (ns_at ns hc) W
  have HI := Lib.hid hix
  have HM := Lib.hid hm
  clear hix hm
  obtain ⟨K, hK⟩ : ∃ K, K = sumN ns 5 := ⟨_, rfl⟩
  rw [← hK] at hk ⊢
  have HK := Lib.hid hK
  clear hK
  obtain ⟨W1, hW1⟩ : ∃ W1 : World, W1 = w.alloc (.cells #[.int .i64 (ns 0 : Nat), .int .i64 (ns 1 : Nat), .int .i64 (ns 2 : Nat), .int .i64 (ns 3 : Nat), .int .i64 (ns 4 : Nat)] 22) := ⟨_, rfl⟩
  have b1 : Below w.heap.size w W1 := by rw [hW1]; exact below_alloc w _
  have h1 : W1.heap[w.heap.size]? = some (.cells #[.int .i64 (ns 0 : Nat), .int .i64 (ns 1 : Nat), .int .i64 (ns 2 : Nat), .int .i64 (ns 3 : Nat), .int .i64 (ns 4 : Nat)] 22 (0, 0)) := by rw [hW1]; exact heap_alloc_new w _
  have HH1 := Lib.hid h1
  have d0 := cell_of h1 0
  have d1 := cell_of h1 1
  have d2 := cell_of h1 2
  have d3 := cell_of h1 3
  have d4 := cell_of h1 4
  simp only [List.getElem?_toArray, List.getElem?_cons_zero, List.getElem?_cons_succ] at d0 d1 d2 d3 d4
  have HB := Lib.hid b1
  have HW := Lib.hid hW1
  clear b1 h1 hW1
  unfold nsV
  go_enter Try.func26, Try.ntmps26
  go_upto_region 2 with (fail)
  rw [← HW.out]
  go_wp2
  go_loop [4, 12] (fun n i => ∃ c : Nat, c ≤ 5 ∧ n = .int .i64 (sumN ns c : Nat) ∧ i = .int .i64 (c : Nat)) (fun _ i => 5 - (intOf i).toNat)
  case atStart => exact ⟨0, by omega, rfl, rfl⟩
  case round =>
    obtain ⟨c, hc, rfl, rfl⟩ := hrel
    have c00 : (0 : Int) ≤ c := by omega
    by_cases hc5 : c < 5
    · have c05 : (c : Int) < 5 := by omega
      have hidx := HI.out c hc5
      unfold nsV at hidx
      have hs : sumN ns (c + 1) = sumN ns c + ns c := rfl
      have hsm := HM.out c hc5
      rw [hs, ← HK.out] at hsm
      obtain ⟨y, hy⟩ : ∃ y, y = ns c := ⟨_, rfl⟩
      obtain ⟨s, hs2⟩ : ∃ s, s = sumN ns c := ⟨_, rfl⟩
      rw [← hy] at hidx hs hsm
      rw [← hs2] at hs hsm ⊢
      have HS := Lib.hid hs
      clear hs hy hs2 d0 d1 d2 d3 d4
      have y0 : ¬ (y : Int) < 0 := by omega
      have y1 : ¬ (y : Int) > 1024 := by omega
      go_wp2
      go_round
      case rel => exact ⟨c + 1, by omega, by rw [HS.out]; go_num, by go_num⟩
      case measure => simp only [intOf]; omega
    · obtain rfl : c = 5 := by omega
      rw [← HK.out]
      have k0 : ¬ (K : Int) > 1024 := by omega
      go_upto_region 12 with (fail)
      obtain ⟨W2, hW2⟩ : ∃ W2 : World, W2 = W1.alloc (.cells #[.slice none 0 0, .int .i64 0, .slice none 0 0, .int .i64 0, .slice none 0 0, .int .i64 0, .slice none 0 0, .int .i64 0, .slice none 0 0, .int .i64 0, .slice none 0 0] 67) := ⟨_, rfl⟩
      have h2 : W2.heap[W1.heap.size]? = some (.cells #[.slice none 0 0, .int .i64 0, .slice none 0 0, .int .i64 0, .slice none 0 0, .int .i64 0, .slice none 0 0, .int .i64 0, .slice none 0 0, .int .i64 0, .slice none 0 0] 67 (0, 0)) := by rw [hW2]; exact heap_alloc_new W1 _
      have b2 : Below W1.heap.size W1 W2 := by rw [hW2]; exact below_alloc W1 _
      have hI0 : Hid (NR ns w W1.heap.size K 0 0 0 W2) := Lib.hid (NR.first h2 (HB.out.trans (b2.mono HB.out.size)) HB.out.size)
      have hx1 := (b2.block w.heap.size (lt_of_heap HH1.out)).trans HH1.out
      rw [← hW2]
      obtain ⟨Q, hQ⟩ : ∃ Q, Q = W1.heap.size := ⟨_, rfl⟩
      rw [← hQ] at hI0 ⊢
      clear hW2 h2 b2 hQ d0 d1 d2 d3 d4
      have d0 := cell_of hx1 0
      have d1 := cell_of hx1 1
      have d2 := cell_of hx1 2
      have d3 := cell_of hx1 3
      have d4 := cell_of hx1 4
      simp only [List.getElem?_toArray, List.getElem?_cons_zero, List.getElem?_cons_succ] at d0 d1 d2 d3 d4
      clear hx1
      go_wp2
      clear d0 d1 d2 d3 d4
      go_loopw [30] (fun i W => ∃ c : Nat, i = .int .i64 c ∧ c ≤ 5 ∧ Hid (NR ns w Q K c c 0 W)) (fun i _ => 5 - (intOf i).toNat)
      case atStart => exact ⟨0, rfl, Nat.zero_le _, hI0⟩
      case round =>
        clear hI0
        obtain ⟨c, rfl, hc, HNI⟩ := hrel
        have c0 : (0 : Int) ≤ c := by omega
        by_cases h5 : c < 5
        · have c5 : (c : Int) < 5 := by omega
          have hi := HI.out c h5
          unfold nsV at hi
          have hs : sumN ns (c + 1) = sumN ns c + ns c := rfl
          have hsm := HM.out c h5
          rw [hs, ← HK.out] at hsm
          have hy : (ns c : Int) ≤ 1024 := by omega
          have hy0 : (0 : Int) ≤ ns c := by omega
          clear hs
          have HN1 := Lib.hid (HNI.out.most h5)
          have hce := HNI.out
          obtain ⟨v, sl, ys, PA, PC, xs, hrn, -⟩ := hce
          have p1 := (hrn.pl c h5).c0
          have p2 := hrn.fr (1 + c * 2)
          clear hrn v sl PA PC xs
          obtain ⟨m0, hm0⟩ : ∃ m0 : Int, m0 = (if c < c then (K : Int) else 0) := ⟨_, rfl⟩
          rw [← hm0] at p1
          clear hm0 ys
          obtain ⟨x, hx⟩ : ∃ x, x = sumN ns c := ⟨_, rfl⟩
          obtain ⟨y, hyy⟩ : ∃ y, y = ns c := ⟨_, rfl⟩
          have HX := Lib.hid hx
          have HY := Lib.hid hyy
          rw [← hx] at hsm
          rw [← hyy] at hsm hy hy0 hi
          clear hx hyy
          go_wp2
          clear p1 p2 hi
          go_loopw [10] (fun i W => ∃ j : Nat, i = .int .i64 j ∧ j ≤ y ∧ Hid (NR ns w Q K (c + 1) c j W)) (fun i _ => y - (intOf i).toNat)
          case atStart => exact ⟨0, rfl, Nat.zero_le _, HN1⟩
          case round =>
            clear HN1 HNI
            obtain ⟨j, rfl, hj, HNJ⟩ := hrel
            have j0 : (0 : Int) ≤ j := by omega
            by_cases hjy : j < y
            · have j1 : (j : Int) < y := by omega
              go_upto_region 19 with (fail)
              obtain ⟨Wz, hWz⟩ : ∃ Wz : World, Wz = wr.drew := ⟨_, rfl⟩
              have HNZ : Hid (NR ns w Q K (c + 1) c j Wz) := Lib.hid (HNJ.out.on (by rw [hWz]; exact below_drew wr))
              have hpu := HNZ.out.put h5 (by rw [← HX.out]; omega) hk
              rw [← HX.out] at hpu
              have hce := HNZ.out
              obtain ⟨v, sl, ys, PA, PC, xs, hrn, -, hfr, -⟩ := hce
              have p1 := hrn.c0
              obtain ⟨A1, c1, hv⟩ := hrn.row.form
              rw [hv, hfr.len, ← HX.out] at p1
              clear hrn hfr hv v sl ys PA PC xs
              refine wp_region_K AnyW 11 (by kernel_rfl) ?_
              rw [← hWz]
              clear hWz HNJ
              refine wpAnyK_pure (i := 0) (oi := _) (v := ?_) (by rfl) (by kernel_rfl) (by intro _ _ _ h; exact h) (Or.inl ⟨by rfl, ?_⟩) ?_
              rotate_left 1
              · intro w' _
                go_simp
                all_goals with_reducible rfl
              simp only [Act.put, List.getElem_toArray, List.getElem_cons_zero, List.getElem_cons_succ, List.setIfInBounds_toArray, List.set_cons_zero, List.set_cons_succ]
              refine wpAnyK_pure (i := 1) (oi := _) (v := ?_) (by rfl) (by kernel_rfl) (by intro _ _ _ h; exact h) (Or.inl ⟨by rfl, ?_⟩) ?_
              rotate_left 1
              · intro w' _
                go_simp
                all_goals with_reducible rfl
              simp only [Act.put, List.getElem_toArray, List.getElem_cons_zero, List.getElem_cons_succ, List.setIfInBounds_toArray, List.set_cons_zero, List.set_cons_succ]
              refine wpAnyK_pure (i := 2) (oi := _) (v := ?_) (by rfl) (by kernel_rfl) (by intro _ _ _ h; exact h) (Or.inl ⟨by rfl, ?_⟩) ?_
              rotate_left 1
              · intro w' _
                go_simp
                all_goals with_reducible rfl
              simp only [Act.put, List.getElem_toArray, List.getElem_cons_zero, List.getElem_cons_succ, List.setIfInBounds_toArray, List.set_cons_zero, List.set_cons_succ]
              refine wpAnyK_pure (i := 3) (oi := _) (v := ?_) (by rfl) (by kernel_rfl) (by intro _ _ _ h; exact h) (Or.inl ⟨by rfl, ?_⟩) ?_
              rotate_left 1
              · intro w' _
                go_simp
                all_goals with_reducible rfl
              simp only [Act.put, List.getElem_toArray, List.getElem_cons_zero, List.getElem_cons_succ, List.setIfInBounds_toArray, List.set_cons_zero, List.set_cons_succ]
              refine wpAnyK_pure (i := 4) (oi := _) (v := ?_) (by rfl) (by kernel_rfl) (by intro _ _ _ h; exact h) (Or.inl ⟨by rfl, ?_⟩) ?_
              rotate_left 1
              · intro w' _
                go_simp
                all_goals with_reducible rfl
              simp only [Act.put, List.getElem_toArray, List.getElem_cons_zero, List.getElem_cons_succ, List.setIfInBounds_toArray, List.set_cons_zero, List.set_cons_succ]
              refine wpAnyK_pure (i := 5) (oi := _) (v := ?_) (by rfl) (by kernel_rfl) (by intro _ _ _ h; exact h) (Or.inl ⟨by rfl, ?_⟩) ?_
              rotate_left 1
              · intro w' _
                go_simp
                all_goals with_reducible rfl
              simp only [Act.put, List.getElem_toArray, List.getElem_cons_zero, List.getElem_cons_succ, List.setIfInBounds_toArray, List.set_cons_zero, List.set_cons_succ]
              refine wpAnyK_pure (i := 6) (oi := _) (v := ?_) (by rfl) (by kernel_rfl) (by intro _ _ _ h; exact h) (Or.inl ⟨by rfl, ?_⟩) ?_
              rotate_left 1
              · intro w' _
                go_simp
                all_goals with_reducible rfl
              simp only [Act.put, List.getElem_toArray, List.getElem_cons_zero, List.getElem_cons_succ, List.setIfInBounds_toArray, List.set_cons_zero, List.set_cons_succ]
              refine wpAnyK_pure (i := 7) (oi := _) (v := ?_) (by rfl) (by kernel_rfl) (by intro _ _ _ h; exact h) (Or.inl ⟨by rfl, ?_⟩) ?_
              rotate_left 1
              · intro w' _
                go_simp
                all_goals with_reducible rfl
              simp only [Act.put, List.getElem_toArray, List.getElem_cons_zero, List.getElem_cons_succ, List.setIfInBounds_toArray, List.set_cons_zero, List.set_cons_succ]
              refine wpAnyK_all (rs := [8]) (by kernel_rfl) (by simp) ?_
              intro ix hix
              simp only [List.mem_cons, List.not_mem_nil, or_false] at hix
              subst hix
              refine wpK_op (o := _) (by rfl) (fun K9 hK9 => ?_)
              go_simp
              refine hK9 _ _ (fun _ _ => trivial) ?_
              clear hK9 K9
              try simp only [Act.put, List.getElem_toArray, List.getElem_cons_zero, List.getElem_cons_succ, List.setIfInBounds_toArray, List.set_cons_zero, List.set_cons_succ]
              refine wpAnyK_pure (i := 9) (oi := _) (v := ?_) (by rfl) (by kernel_rfl) (by intro _ _ _ h; exact h) (Or.inl ⟨by rfl, ?_⟩) ?_
              rotate_left 1
              · intro w' _
                go_simp
                all_goals with_reducible rfl
              simp only [Act.put, List.getElem_toArray, List.getElem_cons_zero, List.getElem_cons_succ, List.setIfInBounds_toArray, List.set_cons_zero, List.set_cons_succ]
              refine wpAnyK_all (rs := [10]) (by kernel_rfl) (by simp) ?_
              intro ix hix
              simp only [List.mem_cons, List.not_mem_nil, or_false] at hix
              subst hix
              refine wpK_op (o := _) (by rfl) (fun K9 hK9 => ?_)
              go_simp
              go_at_call 57
              refine hpu.mono ?_
              rintro e w2 ⟨rfl, v2, sl2, ys2, PA2, PC2, xs2, hnp⟩
              have HNP := Lib.hid hnp
              clear hnp p1 hpu
              refine hK9 _ _ (fun _ _ => trivial) ?_
              clear hK9 K9
              try simp only [Act.put, List.getElem_toArray, List.getElem_cons_zero, List.getElem_cons_succ, List.setIfInBounds_toArray, List.set_cons_zero, List.set_cons_succ]
              refine wpAnyK_done (by kernel_rfl) ?_ _
              go_upto_region 20 with (fail)
              have HRN := Lib.hid HNP.out.rn
              have HBB := Lib.hid HNP.out.bel
              have HLEN : Hid (sl2.length ≤ 1024) := Lib.hid (by rw [HNP.out.fr.len, ← HX.out]; omega)
              obtain ⟨Wd, hWd⟩ : ∃ Wd : World, Wd = w2.drew := ⟨_, rfl⟩
              have HBd : Hid (Below w2.heap.size w2 Wd) := Lib.hid (by rw [hWd]; exact below_drew w2)
              have hS2 : One ⟨Q, 0, none⟩ v2 Wd := by rw [hWd]; exact HRN.out.c0
              refine wp_region_K (One ⟨Q, 0, none⟩ v2) 11 (by kernel_rfl) ?_
              rw [← hWd]
              clear hWd
              refine wpAnyK_pure (i := 0) (oi := _) (v := ?_) (by rfl) (by kernel_rfl) (by intro _ _ _ h; exact h) (Or.inl ⟨by rfl, ?_⟩) ?_
              rotate_left 1
              · intro w' _
                go_simp
                all_goals with_reducible rfl
              simp only [Act.put, List.getElem_toArray, List.getElem_cons_zero, List.getElem_cons_succ, List.setIfInBounds_toArray, List.set_cons_zero, List.set_cons_succ]
              refine wpAnyK_pure (i := 1) (oi := _) (v := ?_) (by rfl) (by kernel_rfl) (by intro _ _ _ h; exact h) (Or.inl ⟨by rfl, ?_⟩) ?_
              rotate_left 1
              · intro w' _
                go_simp
                all_goals with_reducible rfl
              simp only [Act.put, List.getElem_toArray, List.getElem_cons_zero, List.getElem_cons_succ, List.setIfInBounds_toArray, List.set_cons_zero, List.set_cons_succ]
              refine wpAnyK_pure (i := 2) (oi := _) (v := ?_) (by rfl) (by kernel_rfl) (by intro _ _ _ h; exact h) (Or.inl ⟨by rfl, ?_⟩) ?_
              rotate_left 1
              · intro w' _
                go_simp
                all_goals with_reducible rfl
              simp only [Act.put, List.getElem_toArray, List.getElem_cons_zero, List.getElem_cons_succ, List.setIfInBounds_toArray, List.set_cons_zero, List.set_cons_succ]
              refine wpAnyK_pure (i := 3) (oi := _) (v := ?_) (by rfl) (by kernel_rfl) (by intro _ _ _ h; exact h) (Or.inl ⟨by rfl, ?_⟩) ?_
              rotate_left 1
              · intro w' _
                go_simp
                all_goals with_reducible rfl
              simp only [Act.put, List.getElem_toArray, List.getElem_cons_zero, List.getElem_cons_succ, List.setIfInBounds_toArray, List.set_cons_zero, List.set_cons_succ]
              refine wpAnyK_take (i := 4) (oi := _) (v := ?_) (by rfl) (by kernel_rfl) (by intro _ _ _ h; exact h) hS2 (Or.inl ⟨by rfl, ?_⟩) ?_
              rotate_left 1
              · intro w' hl
                have hl1 : w'.cell? ⟨Q, 0, none⟩ = _ := hl
                clear hl
                go_simp
                all_goals with_reducible rfl
              simp only [Act.put, List.getElem_toArray, List.getElem_cons_zero, List.getElem_cons_succ, List.setIfInBounds_toArray, List.set_cons_zero, List.set_cons_succ]
              refine wpAnyK_pure (i := 5) (oi := _) (v := ?_) (by rfl) (by kernel_rfl) (by intro _ _ _ h; exact h) (Or.inl ⟨by rfl, ?_⟩) ?_
              rotate_left 1
              · intro w' _
                go_simp
                all_goals with_reducible rfl
              simp only [Act.put, List.getElem_toArray, List.getElem_cons_zero, List.getElem_cons_succ, List.setIfInBounds_toArray, List.set_cons_zero, List.set_cons_succ]
              refine wpAnyK_pure (i := 6) (oi := _) (v := ?_) (by rfl) (by kernel_rfl) (by intro _ _ _ h; exact h) (Or.inl ⟨by rfl, ?_⟩) ?_
              rotate_left 1
              · intro w' _
                go_simp
                all_goals with_reducible rfl
              simp only [Act.put, List.getElem_toArray, List.getElem_cons_zero, List.getElem_cons_succ, List.setIfInBounds_toArray, List.set_cons_zero, List.set_cons_succ]
              refine wpAnyK_all (rs := [7]) (by kernel_rfl) (by simp) ?_
              intro ix hix
              simp only [List.mem_cons, List.not_mem_nil, or_false] at hix
              subst hix
              refine wpK_op (o := _) (by rfl) (fun K9 hK9 => ?_)
              go_simp
              go_at_call 58
              refine (rpoison_any c h5 Wd).mono ?_
              rintro e w3 ⟨b, rfl, hb3, hbn, hbl⟩
              have hS3 : One ⟨Q, 0, none⟩ v2 w3 := (hbl.cell (World.block_lt_of_cell? _ _ hS2)).trans hS2
              have HB3 := Lib.hid hb3
              have HBN := Lib.hid hbn
              have HBL := Lib.hid hbl
              clear hb3 hbn hbl
              refine hK9 _ _ (fun _ _ => hS3) ?_
              clear hK9 K9
              try simp only [Act.put, List.getElem_toArray, List.getElem_cons_zero, List.getElem_cons_succ, List.setIfInBounds_toArray, List.set_cons_zero, List.set_cons_succ]
              refine wpAnyK_pure (i := 8) (oi := _) (v := ?_) (by rfl) (by kernel_rfl) (by intro _ _ _ h; exact h) (Or.inl ⟨by rfl, ?_⟩) ?_
              rotate_left 1
              · intro w' _
                go_simp
                all_goals with_reducible rfl
              simp only [Act.put, List.getElem_toArray, List.getElem_cons_zero, List.getElem_cons_succ, List.setIfInBounds_toArray, List.set_cons_zero, List.set_cons_succ]
              refine wpAnyK_all (rs := [9]) (by kernel_rfl) (by simp) ?_
              intro ix hix
              simp only [List.mem_cons, List.not_mem_nil, or_false] at hix
              subst hix
              refine wpK_op (o := _) (by rfl) (fun K9 hK9 => ?_)
              go_simp
              refine hK9 _ _ (fun _ _ => ((below_alloc w3 _).cell (World.block_lt_of_cell? _ _ hS3)).trans hS3) ?_
              clear hK9 K9
              try simp only [Act.put, List.getElem_toArray, List.getElem_cons_zero, List.getElem_cons_succ, List.setIfInBounds_toArray, List.set_cons_zero, List.set_cons_succ]
              obtain ⟨We, hWe⟩ : ∃ We : World, We = w3.alloc (Obj.cells #[.int .i64 (c : Nat), .int .i64 1, .bool false, .slice (some ⟨b, 0, none⟩) (szN c) (szN c)] 69) := ⟨_, rfl⟩
              have HLE : Hid (We.heap[w3.heap.size]? = some (.cells #[.int .i64 (c : Nat), .int .i64 1, .bool false, .slice (some ⟨b, 0, none⟩) (szN c) (szN c)] 69 (0, 0))) := Lib.hid (by rw [hWe]; exact heap_alloc_new w3 _)
              have HBE : Hid (Below w3.heap.size w3 We) := Lib.hid (by rw [hWe]; exact below_alloc w3 _)
              rw [← hWe]
              clear hWe
              have HB2E : Hid (Below w2.heap.size w2 We) := Lib.hid (HBd.out.trans ((HBL.out.trans (HBE.out.mono HBL.out.size)).mono HBd.out.size))
              have HRE := Lib.hid (HRN.out.on HB2E.out)
              have hLl := HLEN.out
              obtain ⟨i1, hi1, hz1, hz2, hz3⟩ := info_parts info69
              refine wpAnyK_all (rs := [10]) (by kernel_rfl) (by simp) ?_
              intro ix hix
              simp only [List.mem_cons, List.not_mem_nil, or_false] at hix
              subst hix
              refine wpK_op (o := _) (by rfl) (fun K9 hK9 => ?_)
              refine step_append_mid (by rfl) _ _ _ (by rfl) w.heap.size 69 i1 _ 4 48 Try.underlying62 hi1 hz1 hz2 hz3 rfl (by omega) v2 sl2.length (flR sl2) (by rfl) HRE.out.row ⟨w3.heap.size, 0, none⟩ 1 1 (slR (newSl c b)) (by rfl) (by rfl) (World.news_of_block (cs := #[.int .i64 (c : Nat), .int .i64 1, .bool false, .slice (some ⟨b, 0, none⟩) (szN c) (szN c)]) (t := 69) (fr := (0, 0)) HLE.out) (by simp [slR, Value.oneCell']) (by unfold maxLen; omega) (by omega) (by have := HBB.out.size; have := HB2E.out.size; omega) ?_
              intro v3 w4 hm4 hr4
              obtain ⟨A4, c4, rfl⟩ := hm4.form
              have hp4 := HRE.out.push h5 hm4 hr4 ((HBE.out.block b (lt_of_heap HB3.out)).trans HB3.out) (by have := HRN.out.ql; have := HBd.out.size; have := HBN.out; omega) (by have := HBB.out.size; have := HBd.out.size; have := HBN.out; omega) (by have := HBB.out.size; have := HB2E.out.size; omega)
              have q0 := hr4.grown.cell_far ⟨Q, 0, none⟩ HRE.out.ql (fun e => HRE.out.vq Q e.symm rfl)
              have q1 := hr4.grown.frozen_far ⟨Q, 0, none⟩ HRE.out.ql (fun e => HRE.out.vq Q e.symm rfl)
              rw [HRE.out.c0] at q0
              rw [HRE.out.fr] at q1
              have HB4 : Hid (Below w.heap.size w w4) := Lib.hid ((HBB.out.trans (HB2E.out.mono HBB.out.size)).grown hr4.grown (by have := HBB.out.size; have := HB2E.out.size; omega) (fun g hg => (HRE.out.row.lt g hg).1))
              have HP4 := Lib.hid hp4
              clear hp4 hm4 hr4
              refine hK9 _ _ (fun _ _ => q0) ?_
              clear hK9 K9
              try simp only [Act.put, List.getElem_toArray, List.getElem_cons_zero, List.getElem_cons_succ, List.setIfInBounds_toArray, List.set_cons_zero, List.set_cons_succ]
              refine wpAnyK_all (rs := [11]) (by kernel_rfl) (by simp) ?_
              intro ix hix
              simp only [List.mem_cons, List.not_mem_nil, or_false] at hix
              subst hix
              refine wpK_op (o := _) (by rfl) (fun K9 hK9 => ?_)
              go_simp
              refine hK9 _ _ (fun h => absurd h (by omega)) ?_
              clear hK9 K9
              try simp only [Act.put, List.getElem_toArray, List.getElem_cons_zero, List.getElem_cons_succ, List.setIfInBounds_toArray, List.set_cons_zero, List.set_cons_succ]
              refine wpAnyK_all (rs := [12]) (by kernel_rfl) (by simp) ?_
              intro ix hix
              simp only [List.mem_cons, List.not_mem_nil, or_false] at hix
              subst hix
              refine wpK_op (o := _) (by rfl) (fun K9 hK9 => ?_)
              go_simp
              refine hK9 _ _ (fun h => absurd h (by omega)) ?_
              clear hK9 K9
              try simp only [Act.put, List.getElem_toArray, List.getElem_cons_zero, List.getElem_cons_succ, List.setIfInBounds_toArray, List.set_cons_zero, List.set_cons_succ]
              refine wpAnyK_all (rs := [13]) (by kernel_rfl) (by simp) ?_
              intro ix hix
              simp only [List.mem_cons, List.not_mem_nil, or_false] at hix
              subst hix
              refine wpK_op (o := _) (by rfl) (fun K9 hK9 => ?_)
              go_simp
              refine hK9 _ _ (fun h => absurd h (by omega)) ?_
              clear hK9 K9
              try simp only [Act.put, List.getElem_toArray, List.getElem_cons_zero, List.getElem_cons_succ, List.setIfInBounds_toArray, List.set_cons_zero, List.set_cons_succ]
              refine wpAnyK_done (by kernel_rfl) ?_ _
              go_wp2
              go_roundw
              case rel => exact ⟨j + 1, by go_num, by omega, Lib.hid ⟨_, _, ys2, PA2, PC2, _, HP4.out, HB4.out.setCell (p := ⟨Q, 0, none⟩) HRE.out.nQ _, HNP.out.fr.push (b := b) (by rw [← HY.out]; exact hjy), HNP.out.srt, HNP.out.mem, HNP.out.ln⟩⟩
              case measure => simp only [intOf]; omega
            · obtain rfl : y = j := by omega
              go_wp2
              go_roundw
              case rel => exact ⟨c + 1, by go_num, by omega, Lib.hid (NR.next (q := c + 1) (by rw [← HY.out]; exact HNJ.out))⟩
              case measure => simp only [intOf]; omega
        · obtain rfl : c = 5 := by omega
          go_wp2
          go_ret2
          exact ⟨Q, rfl, HNI.out⟩
end Go.Proofs.Ytndmpdpmfieacaa

namespace Go.Proofs.Ytndmpdpmfieacaa
open Go.RowKit Go.WideShapes Go.ChangeShapes
set_option linter.all false
set_option maxRecDepth 100000
theorem nodup_len {xs : List Int} {k : Nat} (hn : xs.Nodup) (hr : ∀ x ∈ xs, 0 ≤ x ∧ x < k) : xs.length ≤ k := by
  have h1 : ((List.range k).map (fun n : Nat => (n : Int))).Nodup := by
    rw [List.nodup_iff_pairwise_ne, List.pairwise_map]
    exact (List.nodup_iff_pairwise_ne.1 List.nodup_range).imp fun h e => h (by omega)
  have h2 : (((List.range k).map (fun n : Nat => (n : Int))).filter (fun x => decide (x ∈ xs))).Nodup := h1.sublist List.filter_sublist
  have h3 := (List.perm_ext_iff_of_nodup hn h2).2 (fun a => by
    rw [List.mem_filter, List.mem_map]
    constructor
    · intro ha
      have := hr a ha
      exact ⟨⟨a.toNat, List.mem_range.2 (by omega), by omega⟩, by simpa using ha⟩
    · rintro ⟨_, h⟩
      simpa using h)
  rw [h3.length_eq]
  refine Nat.le_trans (List.length_filter_le _ _) ?_
  rw [List.length_map, List.length_range]
  exact Nat.le_refl _
theorem nodup_lt {xs : List Int} {k : Nat} {i : Int} (hn : xs.Nodup) (hr : ∀ x ∈ xs, 0 ≤ x ∧ x < k) (hi : 0 ≤ i ∧ i < k) (hx : i ∉ xs) : xs.length < k := by
  have := nodup_len (xs := i :: xs) (k := k) (List.nodup_cons.2 ⟨hx, hn⟩) (fun x h => by
    rcases List.mem_cons.1 h with rfl | h
    · exact hi
    · exact hr x h)
  rw [List.length_cons] at this; omega
theorem filter_next {m : Nat} : ∀ {xs : List Int}, xs.Nodup → (xs.filter (fun x => decide (x < ((m + 1 : Nat) : Int)))).length = (xs.filter (fun x => decide (x < (m : Int)))).length + if (m : Int) ∈ xs then 1 else 0
  | [], _ => rfl
  | y :: r, h => by
    obtain ⟨h1, h2⟩ := List.nodup_cons.1 h
    have ih := filter_next (m := m) h2
    rw [List.filter_cons, List.filter_cons]
    by_cases e : y = (m : Int)
    · subst e
      rw [if_pos (by simp; omega), if_neg (by simp), if_pos (List.mem_cons_self ..), List.length_cons, ih, if_neg h1]
    · have e2 : ((m : Int) ∈ y :: r) ↔ (m : Int) ∈ r := by rw [List.mem_cons]; exact ⟨fun h => h.resolve_left (fun h => e h.symm), .inr⟩
      by_cases hy : y < (m : Int)
      · rw [if_pos (by simp; omega), if_pos (by simpa using hy), List.length_cons, List.length_cons, ih]
        simp only [e2]; omega
      · rw [if_neg (by simp; omega), if_neg (by simpa using hy), ih]
        simp only [e2]
/-- So many of the first slots are live. -/
def liveC (sl : List Sl) : Nat → Nat
  | 0 => 0
  | i + 1 => liveC sl i + if (sl.getD i dS).live = true then 1 else 0
theorem liveC_le (sl : List Sl) : ∀ i, liveC sl i ≤ i
  | 0 => Nat.le_refl _
  | i + 1 => by
    have := liveC_le sl i
    show liveC sl i + _ ≤ _
    split <;> omega
theorem free_count {sl : List Sl} {xs : Nat → List Int} {G : Nat} (h : Ok sl xs G) (hc : ∀ i, i < sl.length → (sl.getD i dS).cls < 5) (hn : ∀ c, c < 5 → (xs c).Nodup) : freeN xs 5 + liveC sl sl.length = sl.length := by
  have key : ∀ m, m ≤ sl.length → ((xs 0).filter (fun x => decide (x < (m : Int)))).length + ((xs 1).filter (fun x => decide (x < (m : Int)))).length + ((xs 2).filter (fun x => decide (x < (m : Int)))).length + ((xs 3).filter (fun x => decide (x < (m : Int)))).length + ((xs 4).filter (fun x => decide (x < (m : Int)))).length + liveC sl m = m := by
    intro m
    induction m with
    | zero =>
      intro _
      have z : ∀ c, c < 5 → ((xs c).filter (fun x => decide (x < ((0 : Nat) : Int)))).length = 0 := fun c hc5 => by
        rw [List.length_eq_zero_iff, List.filter_eq_nil_iff]
        intro x hx
        obtain ⟨i, hi, rfl, _⟩ := h.only c x hx
        simp
      rw [z 0 (by omega), z 1 (by omega), z 2 (by omega), z 3 (by omega), z 4 (by omega)]
      rfl
    | succ m ih =>
      intro hm
      have ih := ih (by omega)
      have hmem : ∀ c, ((m : Int) ∈ xs c) ↔ ((sl.getD m dS).cls = c ∧ (sl.getD m dS).live = false) := fun c => by
        constructor
        · intro hx
          obtain ⟨i, hi, e, e2⟩ := h.only c _ hx
          obtain rfl : i = m := by omega
          exact ⟨e2, (h.free i hi).1 (by rw [e2]; exact hx)⟩
        · rintro ⟨rfl, e⟩
          exact (h.free m (by omega)).2 e
      rw [filter_next (hn 0 (by omega)), filter_next (hn 1 (by omega)), filter_next (hn 2 (by omega)), filter_next (hn 3 (by omega)), filter_next (hn 4 (by omega))]
      simp only [hmem]
      have hcl := hc m (by omega)
      show _ + (liveC sl m + _) = _
      generalize (sl.getD m dS).cls = c at *
      cases hl : (sl.getD m dS).live
      · simp only [and_true, Bool.false_eq_true, if_false]
        have : c = 0 ∨ c = 1 ∨ c = 2 ∨ c = 3 ∨ c = 4 := by omega
        rcases this with rfl | rfl | rfl | rfl | rfl <;> simp <;> omega
      · simp only [Bool.true_eq_false, and_false, if_false, if_true]
        omega
  have hk := key sl.length (Nat.le_refl _)
  have z : ∀ c, ((xs c).filter (fun x => decide (x < (sl.length : Int)))) = xs c := fun c => by
    rw [List.filter_eq_self]
    intro x hx
    obtain ⟨i, hi, rfl, _⟩ := h.only c x hx
    simp; omega
  rw [z, z, z, z, z] at hk
  simp only [freeN]
  omega
section
variable {M N B S k G : Nat} {w0 : World} {sl : List Sl} {P I : Nat → Nat} {V : Nat → Value} {xs : Nat → List Int} {Q T o cp : Nat} {A : Option Addr} {rl : List Sl} {ys : Nat → List Int} {PA : Nat → Option Addr} {PC : Nat → Nat} {w w' : World}
theorem TA.more (h : TA M w0 N B S k G sl P I V xs Q T o cp A rl ys PA PC w) : TA M w0 N B S k (G + 1) sl P I V xs Q T o cp A rl ys PA PC w :=
  ⟨h.ar, ⟨h.ok.free, h.ok.only, fun i hi => by have := h.ok.gen i hi; omega⟩, h.len, h.k9, h.ra, h.sm, h.rel, h.tw, h.ft, h.bel, h.lo⟩
theorem TA.ffl (h : TA M w0 N B S k G sl P I V xs Q T o cp A rl ys PA PC w) : ∀ b, FF B S sl P I V Q T rl PA b → b < w.heap.size := fun b hb => hb.elim (h.tw.fl b) (h.tw.hl b)
theorem TA.same (h : TA M w0 N B S k G sl P I V xs Q T o cp A rl ys PA PC w) (hs : w.heap.size ≤ w'.heap.size) (hb : ∀ b, FF B S sl P I V Q T rl PA b → w'.heap[b]? = w.heap[b]?) (hl : Below M w0 w') : TA M w0 N B S k G sl P I V xs Q T o cp A rl ys PA PC w' :=
  ⟨h.ar.same (fun b hf => hb b (.inl hf)), h.ok, h.len, h.k9, h.ra.same hs (fun b hf => hb b (.inr hf)), h.sm, h.rel, ⟨h.tw.ap, fun b hf => Nat.lt_of_lt_of_le (h.tw.fl b hf) hs, fun b hf => Nat.lt_of_lt_of_le (h.tw.hl b hf) hs⟩, h.ft, hl, h.lo⟩
theorem TA.xl (h : TA M w0 N B S k G sl P I V xs Q T o cp A rl ys PA PC w) (c : Nat) (hc : c < 5) : (xs c).length ≤ 1024 := by
  have := nodup_len (h.ar.pl c hc).nodup (h.ar.pl c hc).rng
  have := h.k9; omega
theorem TA.xlt (h : TA M w0 N B S k G sl P I V xs Q T o cp A rl ys PA PC w) {i : Nat} (hi : i < sl.length) (hl : (sl.getD i dS).live = true) : (xs (sl.getD i dS).cls).length < 1024 := by
  have hc := (h.ar.wds i hi).2.2.1
  have := nodup_lt (i := (i : Int)) (h.ar.pl _ hc).nodup (h.ar.pl _ hc).rng (by have := h.len; omega) (h.ok.not_mem hi hl)
  have := h.k9; omega
theorem TA.live (h : TA M w0 N B S k G sl P I V xs Q T o cp A rl ys PA PC w) : freeN xs 5 + liveC rl rl.length = sl.length := by
  have h1 := free_count h.ok (fun i hi => (h.ar.wds i hi).2.2.1) (fun c hc => (h.ar.pl c hc).nodup)
  have h2 : ∀ m, m ≤ sl.length → liveC rl m = liveC sl m := by
    intro m
    induction m with
    | zero => intro _; rfl
    | succ m ih =>
      intro hm
      show liveC rl m + _ = liveC sl m + _
      rw [ih (by omega), (h.sm.eq m (by omega)).2.2]
  rw [h.sm.len, h2 _ (Nat.le_refl _)]
  exact h1
end
/-- Both arenas, and a row of the law's own. -/
def PL (w : World) (B Q k G m : Nat) (v : Value) (W : World) : Prop :=
  ∃ N S sl P I V xs T o cp A rl ys PA PC rs, TA w.heap.size w N B S k G sl P I V xs Q T o cp A rl ys PA PC W ∧ Rw (FF B S sl P I V Q T rl PA) W w.heap.size v m rs
/-- .. and a box. -/
def PS (w : World) (B Q k G m : Nat) (v : Value) (bx : Nat) (W : World) : Prop :=
  ∃ N S sl P I V xs T o cp A rl ys PA PC rs, TA w.heap.size w N B S k G sl P I V xs Q T o cp A rl ys PA PC W ∧ Rw (FF B S sl P I V Q T rl PA) W w.heap.size v m rs ∧ bx < W.heap.size ∧ ¬ FF B S sl P I V Q T rl PA bx
section
variable {w W W' : World} {B Q k G m bx : Nat} {v : Value}
theorem PL.on (h : PL w B Q k G m v W) (hb : Below W.heap.size W W') : PL w B Q k G m v W' := by
  obtain ⟨N, S, sl, P, I, V, xs, T, o, cp, A, rl, ys, PA, PC, rs, h1, h2⟩ := h
  exact ⟨N, S, sl, P, I, V, xs, T, o, cp, A, rl, ys, PA, PC, rs, h1.on hb, h2.on hb⟩
theorem PL.bel (h : PL w B Q k G m v W) : Below w.heap.size w W := by
  obtain ⟨N, S, sl, P, I, V, xs, T, o, cp, A, rl, ys, PA, PC, rs, h1, h2⟩ := h
  exact h1.bel
theorem PL.box (h : PL w B Q k G m v W) (hb : Below W.heap.size W W') (h1 : W.heap.size ≤ bx) (h2 : bx < W'.heap.size) : PS w B Q k G m v bx W' := by
  obtain ⟨N, S, sl, P, I, V, xs, T, o, cp, A, rl, ys, PA, PC, rs, h3, h4⟩ := h
  exact ⟨N, S, sl, P, I, V, xs, T, o, cp, A, rl, ys, PA, PC, rs, h3.on hb, h4.on hb, h2, fun hf => by have := h3.ffl bx hf; omega⟩
theorem PS.pl (h : PS w B Q k G m v bx W) : PL w B Q k G m v W := by
  obtain ⟨N, S, sl, P, I, V, xs, T, o, cp, A, rl, ys, PA, PC, rs, h3, h4, _, _⟩ := h
  exact ⟨N, S, sl, P, I, V, xs, T, o, cp, A, rl, ys, PA, PC, rs, h3, h4⟩
theorem PL.more (h : PL w B Q k G m v W) : PL w B Q k (G + 1) m v W := by
  obtain ⟨N, S, sl, P, I, V, xs, T, o, cp, A, rl, ys, PA, PC, rs, h3, h4⟩ := h
  exact ⟨N, S, sl, P, I, V, xs, T, o, cp, A, rl, ys, PA, PC, rs, h3.more, h4⟩
theorem PS.more (h : PS w B Q k G m v bx W) : PS w B Q k (G + 1) m v bx W := by
  obtain ⟨N, S, sl, P, I, V, xs, T, o, cp, A, rl, ys, PA, PC, rs, h3, h4⟩ := h
  exact ⟨N, S, sl, P, I, V, xs, T, o, cp, A, rl, ys, PA, PC, rs, h3.more, h4⟩
theorem PS.on (h : PS w B Q k G m v bx W) (hb : Below W.heap.size W W') : PS w B Q k G m v bx W' := by
  obtain ⟨N, S, sl, P, I, V, xs, T, o, cp, A, rl, ys, PA, PC, rs, h3, h4, h5, h6⟩ := h
  exact ⟨N, S, sl, P, I, V, xs, T, o, cp, A, rl, ys, PA, PC, rs, h3.on hb, h4.on hb, Nat.lt_of_lt_of_le h5 hb.size, h6⟩
theorem PL.mid (h : PL w B Q k G m v W) : ∃ rs : List Int, Mid W w.heap.size 3 1 v m (ks .i64 rs) ∧ rs.length = m := by
  obtain ⟨N, S, sl, P, I, V, xs, T, o, cp, A, rl, ys, PA, PC, rs, h1, h2⟩ := h
  exact ⟨rs, h2.mid, by have := h2.mid.1; rw [ks_len] at this; omega⟩
/-- A store into the box. -/
theorem PS.set (h : PS w B Q k G m v bx W) (hw : w.heap.size ≤ bx) (hv : ∀ g, v.ownBlock = some g → g ≠ bx) (f : Nat) (u : Value) : PS w B Q k G m v bx (W.setCell ⟨bx, f, none⟩ u) := by
  obtain ⟨N, S, sl, P, I, V, xs, T, o, cp, A, rl, ys, PA, PC, rs, h3, h4, h5, h6⟩ := h
  exact ⟨N, S, sl, P, I, V, xs, T, o, cp, A, rl, ys, PA, PC, rs, h3.same (by simp) (fun b hb => heap_far W ⟨bx, f, none⟩ u (fun e => h6 (by have e2 : b = bx := e; rw [← e2]; exact hb))) (h3.bel.setCell (p := ⟨bx, f, none⟩) hw u), ⟨h4.mid.same (fun g hg => heap_far W ⟨bx, f, none⟩ u (hv g hg)), h4.out⟩, by simpa using h5, h6⟩
/-- The row has grown. -/
theorem PL.app {v' : Value} {x : Int} (h : PL w B Q k G m v W) (hm : ∀ rs : List Int, Mid W w.heap.size 3 1 v m (ks .i64 rs) → rs.length = m → Mid W' w.heap.size 3 1 v' (m + 1) (ks .i64 rs ++ [.int .i64 x])) (hr : Ran v v' W W') (hbl : Below w.heap.size w W') : PL w B Q k G (m + 1) v' W' := by
  obtain ⟨N, S, sl, P, I, V, xs, T, o, cp, A, rl, ys, PA, PC, rs, h1, h2⟩ := h
  have hl : rs.length = m := by have := h2.mid.1; rw [ks_len] at this; omega
  exact ⟨N, S, sl, P, I, V, xs, T, o, cp, A, rl, ys, PA, PC, rs ++ [x], h1.same hr.grown.size (fun b hb => hr.grown.block b (h1.ffl b hb) (fun e => h2.out b e.symm hb)) hbl, h2.app h1.ffl (hm rs h2.mid hl) hr⟩
theorem ps_alloc (h : PS w B Q k G m v bx W) (hG : G < 1000000) (c : Int) {A : Option Addr} {n d : Nat} {l : List Int} (hr : Reads w w.heap.size 1 A n (wv l)) :
    Calls Try.prog 23 #[.pointer (some ⟨B, 0, none⟩), .int .i64 c, .slice A n d] W fun e w1 => ∃ z f : Int, e = .returned (.tuple #[.int .i64 z, .int .i64 f]) ∧ w1.heap[bx]? = W.heap[bx]? ∧
      Calls Try.prog 28 #[.pointer (some ⟨Q, 0, none⟩), .int .i64 c, .slice A n d] w1 fun e w2 => e = .returned (.tuple #[.int .i64 z, .int .i64 f]) ∧ PS w B Q k G m v bx w2 ∧ w2.heap[bx]? = W.heap[bx]? := by
  have hps := h
  obtain ⟨N, S, sl, P, I, V, xs, T, o, cp, A', rl, ys, PA, PC, rs, h3, h4, h5, h6⟩ := h
  have key : ∀ z f : Int, (∀ W', Below W.heap.size W W' → Calls Try.prog 23 #[.pointer (some ⟨B, 0, none⟩), .int .i64 c, .slice A n d] W' fun e w' => e = .returned (.tuple #[.int .i64 z, .int .i64 f]) ∧ w' = W') ∧
      (∀ W', Below W.heap.size W W' → Calls Try.prog 28 #[.pointer (some ⟨Q, 0, none⟩), .int .i64 c, .slice A n d] W' fun e w' => e = .returned (.tuple #[.int .i64 z, .int .i64 f]) ∧ w' = W') →
      Calls Try.prog 23 #[.pointer (some ⟨B, 0, none⟩), .int .i64 c, .slice A n d] W fun e w1 => ∃ z f : Int, e = .returned (.tuple #[.int .i64 z, .int .i64 f]) ∧ w1.heap[bx]? = W.heap[bx]? ∧
      Calls Try.prog 28 #[.pointer (some ⟨Q, 0, none⟩), .int .i64 c, .slice A n d] w1 fun e w2 => e = .returned (.tuple #[.int .i64 z, .int .i64 f]) ∧ PS w B Q k G m v bx w2 ∧ w2.heap[bx]? = W.heap[bx]? := fun z f hh => by
    refine (hh.1 W (Below.refl _ _)).mono ?_
    rintro e w1 ⟨rfl, rfl⟩
    refine ⟨z, f, rfl, rfl, (hh.2 _ (Below.refl _ _)).mono ?_⟩
    rintro e w2 ⟨rfl, rfl⟩
    exact ⟨rfl, hps, rfl⟩
  have hM : ∀ ad, A = some ad → 0 < n → ad.block < w.heap.size := fun ad e hn => by
    obtain ⟨ad', e', hb, _⟩ := hr.2 hn
    rw [e] at e'; cases e'; exact hb
  by_cases hc : c < 0 ∨ 5 ≤ c
  · exact key _ _ (h3.alloc_bad hc A n d)
  · obtain ⟨c', rfl⟩ : ∃ c' : Nat, c = (c' : Int) := ⟨c.toNat, by omega⟩
    have hc5 : c' < 5 := by omega
    by_cases hn : n ≤ szN c'
    · by_cases hx : xs c' = []
      · exact key _ _ (h3.alloc_full hc5 A n d hn hx)
      · refine (h3.alloc_ok hG hc5 (hr.below h3.bel) h3.bel.size (fun ad e hn hf => by have := hM ad e hn; have := h3.lo.1 _ hf; omega) (fun ad e hn => by have := hM ad e hn; have := h3.lo; omega) hn hx (fun c hc => h3.xl c hc)).mono ?_
        rintro e w1 ⟨z, rfl, hs, hkb, hnext⟩
        refine ⟨z, 0, rfl, hkb bx h5 (fun hf => h6 (.inl hf)), (hnext w1 (Below.refl _ _)).mono ?_⟩
        rintro e w2 ⟨rfl, sl', V', xs', rl', ys', PA', PC', hta, hmv⟩
        exact ⟨rfl, ⟨_, _, _, _, _, _, _, _, _, _, _, _, _, _, _, _, hta, h4.mv hmv, Nat.lt_of_lt_of_le h5 hmv.size, fun hf => by
          rcases hmv.foot bx hf with h7 | h7
          · exact h6 h7
          · omega⟩, hmv.block bx h5 h6⟩
    · exact key _ _ (h3.alloc_long hc5 A n d (by omega))
/-- The words of an ask, wherever the law stands. -/
theorem arg_far {A : Option Addr} {n : Nat} {l : List Int} (hr : Reads w w.heap.size 1 A n (wv l)) : ∀ ad, A = some ad → 0 < n → ad.block < w.heap.size := fun ad e hn => by
  obtain ⟨ad', e', hb, _⟩ := hr.2 hn
  rw [e] at e'; cases e'; exact hb
/-- A pair of calls that change nothing. -/
theorem ps_still (h : PS w B Q k G m v bx W) {f1 f2 : Nat} {a1 a2 : Array Value} {r1 r2 : Value} (hh : (∀ W', Below W.heap.size W W' → Calls Try.prog f1 a1 W' fun e w' => e = .returned r1 ∧ w' = W') ∧ (∀ W', Below W.heap.size W W' → Calls Try.prog f2 a2 W' fun e w' => e = .returned r2 ∧ w' = W')) :
    Calls Try.prog f1 a1 W fun e w1 => e = .returned r1 ∧ w1.heap[bx]? = W.heap[bx]? ∧ Calls Try.prog f2 a2 w1 fun e w2 => e = .returned r2 ∧ PS w B Q k G m v bx w2 ∧ w2.heap[bx]? = W.heap[bx]? := by
  refine (hh.1 W (Below.refl _ _)).mono ?_
  rintro e w1 ⟨rfl, rfl⟩
  refine ⟨rfl, rfl, (hh.2 _ (Below.refl _ _)).mono ?_⟩
  rintro e w2 ⟨rfl, rfl⟩
  exact ⟨rfl, h, rfl⟩
theorem ps_free (h : PS w B Q k G m v bx W) (hG : G < 1000000) (r : Int) :
    Calls Try.prog 18 #[.pointer (some ⟨B, 0, none⟩), .int .i64 r] W fun e w1 => ∃ f : Int, e = .returned (.int .i64 f) ∧ w1.heap[bx]? = W.heap[bx]? ∧
      Calls Try.prog 29 #[.pointer (some ⟨Q, 0, none⟩), .int .i64 r] w1 fun e w2 => e = .returned (.int .i64 f) ∧ PS w B Q k (G + 1) m v bx w2 ∧ w2.heap[bx]? = W.heap[bx]? := by
  have hps := h
  obtain ⟨N, S, sl, P, I, V, xs, T, o, cp, A', rl, ys, PA, PC, rs, h3, h4, h5, h6⟩ := h
  rcases why_or sl r with ⟨z, hw, hz⟩ | ⟨i, hl⟩
  · refine (ps_still hps (h3.free_no hw hz)).mono ?_
    rintro e w1 ⟨rfl, h7, h8⟩
    exact ⟨_, rfl, h7, h8.mono fun e w2 ⟨a, b, c⟩ => ⟨a, b.more, c⟩⟩
  · refine (h3.free_ok hG hl (h3.xlt hl.lt hl.live)).mono ?_
    rintro e w1 ⟨rfl, hs, hkb, hnext⟩
    refine ⟨0, rfl, hkb bx h5 (fun hf => h6 (.inl hf)), (hnext w1 (Below.refl _ _)).mono ?_⟩
    rintro e w2 ⟨rfl, sl', V', xs', rl', ys', PA', PC', hta, hmv⟩
    exact ⟨rfl, ⟨_, _, _, _, _, _, _, _, _, _, _, _, _, _, _, _, hta, h4.mv hmv, Nat.lt_of_lt_of_le h5 hmv.size, fun hf => by
      rcases hmv.foot bx hf with h7 | h7
      · exact h6 h7
      · omega⟩, hmv.block bx h5 h6⟩
theorem ps_store (h : PS w B Q k G m v bx W) (r : Int) {A : Option Addr} {n d : Nat} {l : List Int} (hr : Reads w w.heap.size 1 A n (wv l)) :
    Calls Try.prog 19 #[.pointer (some ⟨B, 0, none⟩), .int .i64 r, .slice A n d] W fun e w1 => ∃ f : Int, e = .returned (.int .i64 f) ∧ w1.heap[bx]? = W.heap[bx]? ∧
      Calls Try.prog 30 #[.pointer (some ⟨Q, 0, none⟩), .int .i64 r, .slice A n d] w1 fun e w2 => e = .returned (.int .i64 f) ∧ PS w B Q k G m v bx w2 ∧ w2.heap[bx]? = W.heap[bx]? := by
  have hps := h
  obtain ⟨N, S, sl, P, I, V, xs, T, o, cp, A', rl, ys, PA, PC, rs, h3, h4, h5, h6⟩ := h
  have hM := arg_far hr
  rcases why_or sl r with ⟨z, hw, hz⟩ | ⟨i, hl⟩
  · exact (ps_still hps (h3.store_no hw hz A n d)).mono fun e w1 hh => ⟨_, hh⟩
  · by_cases hn : n ≤ szN (sl.getD i dS).cls
    · refine (h3.store_ok hl (hr.below h3.bel) h3.bel.size (fun ad e hn hf => by have := hM ad e hn; have := h3.lo.1 _ hf; omega) hn).mono ?_
      rintro e w1 ⟨rfl, hs, hkb, hnext⟩
      refine ⟨0, rfl, hkb bx h5 (fun hf => h6 (.inl hf)), (hnext w1 (Below.refl _ _)).mono ?_⟩
      rintro e w2 ⟨rfl, sl', rl', hta, hmv⟩
      exact ⟨rfl, ⟨_, _, _, _, _, _, _, _, _, _, _, _, _, _, _, _, hta, h4.mv hmv, Nat.lt_of_lt_of_le h5 hmv.size, fun hf => by
        rcases hmv.foot bx hf with h7 | h7
        · exact h6 h7
        · omega⟩, hmv.block bx h5 h6⟩
    · exact (ps_still hps (h3.store_big hl A n d (by omega))).mono fun e w1 hh => ⟨_, hh⟩
theorem ps_swap (h : PS w B Q k G m v bx W) (r x : Int) {A : Option Addr} {n d : Nat} {l : List Int} (hr : Reads w w.heap.size 1 A n (wv l)) :
    Calls Try.prog 17 #[.pointer (some ⟨B, 0, none⟩), .int .i64 r, .int .u64 x, .slice A n d] W fun e w1 => ∃ (b : Bool) (f : Int), e = .returned (.tuple #[.bool b, .int .i64 f]) ∧ w1.heap[bx]? = W.heap[bx]? ∧
      Calls Try.prog 31 #[.pointer (some ⟨Q, 0, none⟩), .int .i64 r, .int .u64 x, .slice A n d] w1 fun e w2 => e = .returned (.tuple #[.bool b, .int .i64 f]) ∧ PS w B Q k G m v bx w2 ∧ w2.heap[bx]? = W.heap[bx]? := by
  have hps := h
  obtain ⟨N, S, sl, P, I, V, xs, T, o, cp, A', rl, ys, PA, PC, rs, h3, h4, h5, h6⟩ := h
  have hM := arg_far hr
  rcases why_or sl r with ⟨z, hw, hz⟩ | ⟨i, hl⟩
  · exact (ps_still hps (h3.swap_no hw hz x A n d)).mono fun e w1 hh => ⟨_, _, hh⟩
  · by_cases hn : n ≤ szN (sl.getD i dS).cls
    · by_cases hx : (sl.getD i dS).ws.getD 0 0 = x
      · refine (h3.swap_ok hl (hr.below h3.bel) h3.bel.size (fun ad e hn hf => by have := hM ad e hn; have := h3.lo.1 _ hf; omega) hn hx).mono ?_
        rintro e w1 ⟨rfl, hs, hkb, hnext⟩
        refine ⟨true, 0, rfl, hkb bx h5 (fun hf => h6 (.inl hf)), (hnext w1 (Below.refl _ _)).mono ?_⟩
        rintro e w2 ⟨rfl, sl', rl', hta, hmv⟩
        exact ⟨rfl, ⟨_, _, _, _, _, _, _, _, _, _, _, _, _, _, _, _, hta, h4.mv hmv, Nat.lt_of_lt_of_le h5 hmv.size, fun hf => by
          rcases hmv.foot bx hf with h7 | h7
          · exact h6 h7
          · omega⟩, hmv.block bx h5 h6⟩
      · exact (ps_still hps (h3.swap_ne hl (d := d) (hr.below h3.bel) h3.bel.size hn hx)).mono fun e w1 hh => ⟨_, _, hh⟩
    · exact (ps_still hps (h3.swap_big hl x A n d (by omega))).mono fun e w1 hh => ⟨_, _, hh⟩
/-- The reference's Load: a first word where there is no error. -/
theorem ps_rload (h : PS w B Q k G m v bx W) (r : Int) :
    Calls Try.prog 27 #[.pointer (some ⟨Q, 0, none⟩), .int .i64 r] W fun e w1 => ∃ (A : Option Addr) (n c : Nat) (f : Int), e = .returned (.tuple #[.slice A n c, .int .i64 f]) ∧ Below W.heap.size W w1 ∧ (f = 0 → ∃ g off x, A = some ⟨g, off, none⟩ ∧ 0 < n ∧ w1.cell? ⟨g, off, none⟩ = some (.int .u64 x)) := by
  obtain ⟨N, S, sl, P, I, V, xs, T, o, cp, A', rl, ys, PA, PC, rs, h3, h4, h5, h6⟩ := h
  rcases why_or sl r with ⟨z, hw, hz⟩ | ⟨i, hl⟩
  · refine ((h3.load_no hw hz).2 W (Below.refl _ _)).mono ?_
    rintro e w1 ⟨rfl, rfl⟩
    exact ⟨_, _, _, _, rfl, Below.refl _ _, fun h0 => by omega⟩
  · refine ((h3.load_ok hl).2 W (Below.refl _ _)).mono ?_
    rintro e w1 ⟨A2, c2, rfl, hm, hb⟩
    refine ⟨_, _, _, _, rfl, hb, fun _ => ?_⟩
    obtain ⟨hb1, hln, hc5, _⟩ := h3.ar.wds i hl.lt
    have h8 := szN_pos hc5
    rcases hm.2 with ⟨_, h0⟩ | ⟨g, off, cap, cur, hv, _⟩
    · omega
    · simp only [Value.slice.injEq, true_and] at hv
      obtain ⟨rfl, rfl⟩ := hv
      obtain ⟨y, t, hy⟩ : ∃ y t, (sl.getD i dS).ws = y :: t := by
        cases hws : (sl.getD i dS).ws with
        | nil => rw [hws] at hln; have : 0 = szN (sl.getD i dS).cls := hln; omega
        | cons y t => exact ⟨y, t, rfl⟩
      exact ⟨g, off, y, rfl, by omega, by have := hm.cells 0 (.int .u64 y) (by rw [hy]; rfl); simpa using this⟩
theorem Mid.reads {W1 : World} {base n c : Nat} {A : Option Addr} {l : List Value} (hm : Mid W1 base 35 1 (.slice A n c) n l) : Reads W1 W1.heap.size 1 A n l := by
  refine ⟨hm.1, fun hn => ?_⟩
  rcases hm.2 with ⟨_, h0⟩ | ⟨g, off, cap, cur, hv, _, hh, _⟩
  · omega
  · simp only [Value.slice.injEq, true_and] at hv
    obtain ⟨rfl, rfl⟩ := hv
    exact ⟨_, rfl, lt_of_heap hh, fun j u hu => by rw [Addr.add_lit]; exact hm.cells j u hu⟩
/-- Load on both sides: the same words. -/
theorem ps_load (h : PS w B Q k G m v bx W) (r : Int) :
    Calls Try.prog 16 #[.pointer (some ⟨B, 0, none⟩), .int .i64 r] W fun e w1 => ∃ (A : Option Addr) (n c : Nat) (f : Int), e = .returned (.tuple #[.slice A n c, .int .i64 f]) ∧ Below W.heap.size W w1 ∧ n ≤ 264 ∧
      Calls Try.prog 27 #[.pointer (some ⟨Q, 0, none⟩), .int .i64 r] w1 fun e w2 => ∃ (A' : Option Addr) (c' : Nat), e = .returned (.tuple #[.slice A' n c', .int .i64 f]) ∧ Below w1.heap.size w1 w2 ∧ ∀ W9, Below w2.heap.size w2 W9 → Calls Try.prog 24 #[.slice A n c, .slice A' n c'] W9 fun e w3 => e = .returned (.bool true) ∧ Below W9.heap.size W9 w3 := by
  obtain ⟨N, S, sl, P, I, V, xs, T, o, cp, A', rl, ys, PA, PC, rs, h3, h4, h5, h6⟩ := h
  have hsame : ∀ (l : List Int), eqB l l = true := fun l => by unfold eqB; simp
  rcases why_or sl r with ⟨z, hw, hz⟩ | ⟨i, hl⟩
  · refine ((h3.load_no hw hz).1 W (Below.refl _ _)).mono ?_
    rintro e w1 ⟨rfl, rfl⟩
    refine ⟨_, _, _, _, rfl, Below.refl _ _, by omega, ((h3.load_no hw hz).2 _ (Below.refl _ _)).mono ?_⟩
    rintro e w2 ⟨rfl, rfl⟩
    refine ⟨_, _, rfl, Below.refl _ _, fun W9 _ => ?_⟩
    have := same_u 0 none none 0 0 0 0 [] [] W9 Reads.none_ Reads.none_ (by omega) (by omega)
    rw [hsame] at this
    exact this
  · refine ((h3.load_ok hl).1 W (Below.refl _ _)).mono ?_
    rintro e w1 ⟨g, rfl, hg, hge, hb1⟩
    have hle := szN_le (sl.getD i dS).cls
    refine ⟨_, _, _, _, rfl, hb1, hle, ((h3.load_ok hl).2 w1 hb1).mono ?_⟩
    rintro e w2 ⟨A2, c2, rfl, hm, hb2⟩
    refine ⟨_, _, rfl, hb2, fun W9 hb9 => ?_⟩
    have r2 := (hm.reads.below hb9).more hb9.size
    have hg9 : W9.heap[g]? = some (.cells (wv (sl.getD i dS).ws).toArray 35 (0, 0)) := (hb9.block g (Nat.lt_of_lt_of_le (lt_of_heap hg) hb2.size)).trans ((hb2.block g (lt_of_heap hg)).trans hg)
    have r1 : Reads W9 W9.heap.size 1 (some ⟨g, 0, none⟩) (szN (sl.getD i dS).cls) (wv (sl.getD i dS).ws) := by
      have hln := (h3.ar.wds i hl.lt).2.1
      exact ⟨by rw [wv_len, hln, Nat.mul_one], fun _ => ⟨_, rfl, lt_of_heap hg9, fun j u hu => by
        rw [Addr.add_lit, Nat.zero_add, cell_of hg9]; simpa using hu⟩⟩
    have := same_u _ _ _ _ _ (szN (sl.getD i dS).cls) c2 (sl.getD i dS).ws (sl.getD i dS).ws W9 r1 r2 (by omega) (by omega)
    rw [hsame] at this
    exact this
end
end Go.Proofs.Ytndmpdpmfieacaa

namespace Go.Proofs.Ytndmpdpmfieacaa
open Go.RowKit Go.WideShapes Go.ChangeShapes
set_option linter.all false
set_option maxRecDepth 100000
theorem Fr.cls_eq {ns : Nat → Nat} {sl rl : List Sl} {xs zs : Nat → List Int} (h : Fr ns 5 0 sl xs) (h' : Fr ns 5 0 rl zs) {i : Nat} (hi : i < sl.length) (hi' : i < rl.length) : (rl.getD i dS).cls = (sl.getD i dS).cls := by
  have h1 := h.place i hi
  have h2 := h'.place i hi'
  rcases Nat.lt_trichotomy (rl.getD i dS).cls (sl.getD i dS).cls with h3 | h3 | h3
  · have := sumN_mono ns (show (rl.getD i dS).cls + 1 ≤ (sl.getD i dS).cls by omega)
    omega
  · exact h3
  · have := sumN_mono ns (show (sl.getD i dS).cls + 1 ≤ (rl.getD i dS).cls by omega)
    omega
theorem Fr.sm {ns : Nat → Nat} {sl rl : List Sl} {xs zs : Nat → List Int} (h : Fr ns 5 0 sl xs) (h' : Fr ns 5 0 rl zs) : Sm sl rl := by
  have hl : rl.length = sl.length := by rw [h.len, h'.len]
  exact ⟨hl, fun i hi => ⟨h.cls_eq h' hi (by omega), by rw [(h.all i hi).1, (h'.all i (by omega)).1], by rw [(h.all i hi).2, (h'.all i (by omega)).2]⟩, fun i hi hv => by rw [(h.all i hi).2] at hv; cases hv⟩
/-- New on both sides. -/
theorem pl_new (ns : Nat → Nat) (hk : sumN ns 5 ≤ 1024) {w W0 : World} (hb : Below w.heap.size w W0) :
    Calls Try.prog 13 #[nsV ns] W0 fun e W1 => ∃ B, e = .returned (.tuple #[.pointer (some ⟨B, 0, none⟩), .int .i64 0]) ∧ Below W0.heap.size W0 W1 ∧
      ∀ W, Below W1.heap.size W1 W → Calls Try.prog 26 #[nsV ns] W fun e W2 => ∃ Q, e = .returned (.tuple #[.pointer (some ⟨Q, 0, none⟩), .int .i64 0]) ∧ PL w B Q (sumN ns 5) 1 0 (.slice none 0 0) W2 := by
  refine (arena_new ns hk W0).mono ?_
  rintro e W1 ⟨B, S, sl, P, I, V, xs, rfl, har, hb1, hfr⟩
  refine ⟨B, rfl, hb1, fun W hW => (rnew_ok ns hk W).mono ?_⟩
  rintro e W2 ⟨Q, rfl, v, rl, ys, PA, PC, zs, hrn, hb2, hfr2, hsrt, hmem, hlen⟩
  have hl1 := hfr.len
  have hl2 := hfr2.len
  have hm : ∀ c z, z ∈ ys c ↔ z ∈ xs c := fun c z => by
    rw [hmem c z, hfr.mem c z, hfr2.mem c z]
    constructor
    · rintro ⟨i, hi, e1, e2⟩
      exact ⟨i, by omega, e1, by rw [← e2]; exact (hfr.cls_eq hfr2 (by omega) hi).symm⟩
    · rintro ⟨i, hi, e1, e2⟩
      exact ⟨i, by omega, e1, by rw [← e2]; exact hfr.cls_eq hfr2 hi (by omega)⟩
  have s1 := hb.size
  have s2 := hb1.size
  have s3 := hW.size
  have s4 := hb2.size
  have harW := har.on hW
  have har2 := harW.on hb2
  have hnd : ∀ c, c < 5 → (xs c).length ≤ 1024 := fun c hc => by
    have := nodup_len (har.pl c hc).nodup (har.pl c hc).rng
    omega
  have hyl : ∀ c, c < 5 → (ys c).length ≤ 1024 := fun c hc => by
    rw [Rel.len ⟨hsrt c, hm c⟩ (har.pl c hc).nodup]; exact hnd c hc
  obtain ⟨T, o, cp, A, hra, hT, hfoot⟩ := hrn.done (by omega) hyl (by omega)
  refine ⟨Q, rfl, _, S, sl, P, I, V, xs, T, o, cp, A, rl, ys, PA, PC, [], ⟨har2, hfr.ok, by omega, hk, hra, hfr.sm hfr2, fun c hc => ⟨hsrt c, hm c⟩, ⟨fun b h1 h2 => ?_, fun b h1 => (har2.foot h1).2, fun b h2 => (hfoot b h2).2⟩, fun b h1 e => ?_, (hb.trans (hb1.mono s1)).trans ((hW.trans (hb2.mono s3)).mono (by omega)), ⟨fun b h1 => ?_, by have := hrn.nQ; omega, by omega, Nat.le_refl _⟩⟩, Rw.nil _ _ _⟩
  · have := (harW.foot h1).2; have := (hfoot b h2).1; omega
  · have := (harW.foot h1).2; omega
  · have := (har.foot h1).1; have := har.NS; omega
/-- A round's box: what it holds. -/
structure BX (w : World) (B Q k G m : Nat) (v : Value) (bx : Nat) (F : Nat → Int) (ft : Bool) (A : Option Addr) (n c : Nat) (l : List Int) (W : World) : Prop where
  ps : PS w B Q k G m v bx W
  cells : W.heap[bx]? = some (.cells #[.int .i64 (F 0), .int .i64 (F 1), .int .i64 (F 2), .int .i64 (F 3), .int .u64 (F 4), .bool ft, .slice A n c] 50 (0, 0))
  rd : Reads w w.heap.size 1 A n (wv l)
  hw : w.heap.size ≤ bx
  vb : ∀ g, v.ownBlock = some g → g ≠ bx
section
variable {w W W' : World} {B Q k G m bx n c : Nat} {v : Value} {F : Nat → Int} {ft : Bool} {A : Option Addr} {l : List Int}
theorem BX.on (h : BX w B Q k G m v bx F ft A n c l W) (hb : Below W.heap.size W W') : BX w B Q k G m v bx F ft A n c l W' :=
  ⟨h.ps.on hb, (hb.block bx (lt_of_heap h.cells)).trans h.cells, h.rd, h.hw, h.vb⟩
theorem BX.at (h : BX w B Q k G m v bx F ft A n c l W) : W.cell? ⟨bx, 0, none⟩ = some (.int .i64 (F 0)) ∧ W.cell? ⟨bx, 1, none⟩ = some (.int .i64 (F 1)) ∧ W.cell? ⟨bx, 2, none⟩ = some (.int .i64 (F 2)) ∧ W.cell? ⟨bx, 3, none⟩ = some (.int .i64 (F 3)) ∧ W.cell? ⟨bx, 4, none⟩ = some (.int .u64 (F 4)) ∧ W.cell? ⟨bx, 5, none⟩ = some (.bool ft) ∧ W.cell? ⟨bx, 6, none⟩ = some (.slice A n c) :=
  ⟨cell_of h.cells 0, cell_of h.cells 1, cell_of h.cells 2, cell_of h.cells 3, cell_of h.cells 4, cell_of h.cells 5, cell_of h.cells 6⟩
theorem PL.toBX (h : PL w B Q k G m v W) (hr : Reads w w.heap.size 1 A n (wv l)) (F : Nat → Int) (ft : Bool) (c : Nat) : BX w B Q k G m v W.heap.size F ft A n c l (W.alloc (.cells #[.int .i64 (F 0), .int .i64 (F 1), .int .i64 (F 2), .int .i64 (F 3), .int .u64 (F 4), .bool ft, .slice A n c] 50)) :=
  ⟨h.box (below_alloc W _) (Nat.le_refl _) (by simp), heap_alloc_new W _, hr, h.bel.size, fun g hg => by
    obtain ⟨rs, hm, _⟩ := h.mid
    have := (hm.lt g hg).2
    omega⟩
/-- Where the row's numbers lie. -/
theorem PL.at_ (h : PL w B Q k G m v W) (hm : 0 < m) : ∃ g o c' rs, v = .slice (some ⟨g, o, none⟩) m c' ∧ rs.length = m ∧ ∀ i, i < m → W.cell? ⟨g, o + i, none⟩ = some (.int .i64 (List.getD rs i 0)) := by
  obtain ⟨rs, hmid, hl⟩ := h.mid
  have hmid2 := hmid
  rcases hmid.2 with ⟨_, h0⟩ | ⟨g, off, cap, cur, rfl, _⟩
  · omega
  · refine ⟨g, off, cap, rs, rfl, hl, fun i hi => hmid2.cells i _ ?_⟩
    exact ks_get _ _ _ (by omega)
/-- The row may grow. -/
theorem PL.grow (h : PL w B Q k G m v W) : ∃ rs : List Int, Mid W w.heap.size 3 1 v m (ks .i64 rs) ∧ ∀ (v' : Value) (W' : World) (x : Int), Mid W' w.heap.size 3 1 v' (m + 1) (ks .i64 rs ++ [.int .i64 x]) → Ran v v' W W' → PL w B Q k G (m + 1) v' W' := by
  obtain ⟨N, S, sl, P, I, V, xs, T, o, cp, A, rl, ys, PA, PC, rs, h1, h2⟩ := h
  refine ⟨rs, h2.mid, fun v' W' x hm hr => ⟨N, S, sl, P, I, V, xs, T, o, cp, A, rl, ys, PA, PC, rs ++ [x], h1.same hr.grown.size (fun b hb => hr.grown.block b (h1.ffl b hb) (fun e => h2.out b e.symm hb)) (h1.bel.grown hr.grown h1.bel.size (fun g hg => (h2.mid.lt g hg).1)), h2.app h1.ffl hm hr⟩⟩
/-- .. behind a call on both sides. -/
theorem BX.after (h : BX w B Q k G m v bx F ft A n c l W) {G' : Nat} (h1 : PS w B Q k G' m v bx W') (h2 : W'.heap[bx]? = W.heap[bx]?) : BX w B Q k G' m v bx F ft A n c l W' :=
  ⟨h1, h2.trans h.cells, h.rd, h.hw, h.vb⟩
theorem BX.frz (h : BX w B Q k G m v bx F ft A n c l W) (x : Nat) : W.frozen? ⟨bx, x, none⟩ = false := frozen_of h.cells x
theorem BX.ref (h : BX w B Q k G m v bx F ft A n c l W) (x : Int) : BX w B Q k G m v bx (up F 3 x) ft A n c l (W.setCell ⟨bx, 3, none⟩ (.int .i64 x)) :=
  ⟨h.ps.set h.hw h.vb 3 _, (heap_setCell_same W bx 3 _ 50 (.int .i64 x) h.cells).trans rfl, h.rd, h.hw, h.vb⟩
theorem BX.was (h : BX w B Q k G m v bx F ft A n c l W) (x : Int) : BX w B Q k G m v bx (up F 4 x) ft A n c l (W.setCell ⟨bx, 4, none⟩ (.int .u64 x)) :=
  ⟨h.ps.set h.hw h.vb 4 _, (heap_setCell_same W bx 4 _ 50 (.int .u64 x) h.cells).trans rfl, h.rd, h.hw, h.vb⟩
theorem BX.cut (h : BX w B Q k G m v bx F ft A n c l W) {n' : Nat} (hn : n' ≤ n) : BX w B Q k G m v bx F ft A n' c (l.take n') (W.setCell ⟨bx, 6, none⟩ (.slice A n' c)) :=
  ⟨h.ps.set h.hw h.vb 6 _, (heap_setCell_same W bx 6 _ 50 (.slice A n' c) h.cells).trans rfl, by
    have := h.rd.head hn
    rw [Nat.mul_one] at this
    unfold wv at this ⊢
    rw [List.map_take]; exact this, h.hw, h.vb⟩
end
end Go.Proofs.Ytndmpdpmfieacaa
