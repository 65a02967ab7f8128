/-
  posting.Ids, with; conditions: right lists.
-/
import Derived.Test.YtokjeglhmmijfaaPs8
namespace Go.Proofs.Ytokjeglhmmijfaa
open Go.RowKit Go.WideShapes Go.ChangeShapes
set_option linter.all false
set_option maxRecDepth 100000 in
set_option maxHeartbeats 1600000 in
theorem ids_any (A : Option Addr) (n c : Nat) (L : List (List Nat)) (w : World) (h : PL w w.heap.size A n c L) (hR : RL L) (hn : n ≤ 1000000) :
    Calls Try.prog 18 #[plV A n c] w (IdsP L.flatten w) := by
  obtain ⟨i0, hi0, hz0, hz1, hz2⟩ := info_parts infoI
  obtain ⟨wb, hwb⟩ : ∃ wb, w.alloc (.cells #[.slice A n c] 24) = wb := ⟨_, rfl⟩
  have HX : Hid (PBox A n c w wb) := Lib.hid (hwb ▸ PBox.new A n c w)
  have p0 := HX.out.cell
  have HL := Lib.hid h
  have HR := Lib.hid hR
  have HLN := Lib.hid h.len
  have HW := Lib.hid hwb
  clear hwb h hR
  unfold plV
  go_enter Try.func18, Try.ntmps18
  go_upto_region 2 with (fail)
  rw [HW.out]
  go_wp2
  clear p0
  go_loopw [3, 4, 8] (fun s _ i wr => ∃ (j m : Nat) (V : Value), i = .int .i64 j ∧ j ≤ n ∧ s = V ∧ m ≤ 16 * j ∧ Hid (m = (L.take j).flatten.length) ∧ Hid (PBox A n c w wr) ∧ Hid (Mid wr (w.heap.size + 1) 3 1 V m (ks .i64 (nb (L.take j).flatten)))) (fun _ _ i _ => n - (intOf i).toNat)
  case atStart => exact ⟨0, 0, _, rfl, Nat.zero_le _, rfl, by omega, Lib.hid (by simp), HX, Lib.hid (Mid.nil _ _ _ _)⟩
  case round =>
    obtain ⟨j, m, V, rfl, hj, hV, hm, HM, HY, HO⟩ := hrel
    subst hV
    obtain ⟨A1, c1, e1⟩ := HO.out.form
    subst e1
    have p0 := HY.out.cell
    by_cases hlt : j < n
    · have hjl : j < L.length := by rw [HLN.out]; exact hlt
      obtain ⟨b, hb⟩ : ∃ b, b = L.getD j [] := ⟨_, rfl⟩
      have hbl : b.length ≤ 16 := by rw [hb]; exact (HR.out.len _ (getD_mem hjl)).2
      have HN : Hid ((L.take j).flatten ++ b = (L.take (j + 1)).flatten) := Lib.hid (by rw [take_flat hjl, hb])
      have HBE := Lib.hid hb
      clear hb hjl
      go_wp2_with (first
        | (go_at_call 35; refine (block_any A n c j L _ ((HL.out.on HY.out.bel)) HR.out hlt).mono ?_; rintro e w3 ⟨A3, c3, rfl, hb3, hm3⟩
           rw [← HBE.out] at hm3 ⊢
           have HB3 := Lib.hid hb3
           have HM3 := Lib.hid hm3
           clear hb3 hm3)
        | (refine wpList_append_src rfl (.tmp 11) (.tmp 14) 28 rfl (w.heap.size + 1) 3 i0 _ 1 8 Try.underlying28 hi0 hz0 hz1 hz2 rfl (by omega) (.slice A1 m c1) m _ rfl (HO.out.onb HB3.out) w3.heap.size _ b.length c3 (ks .i64 (nb b)) rfl HM3.out.readsv (ks_one _ _) (by unfold maxLen; omega) (by omega) (by have := HY.out.lt; have := HB3.out.size; omega) ?_
           intro v' w4 hmm hran
           have HMM := Lib.hid hmm
           have HRN := Lib.hid hran
           clear hmm hran)
        | fail)
      have HF : Hid (Mid w4 (w.heap.size + 1) 3 1 v' (m + b.length) (ks .i64 (nb (L.take (j + 1)).flatten))) := Lib.hid (by
        have := HMM.out
        rw [← ks_append, ← nb_append, HN.out] at this
        exact this)
      have HB4 : Hid (PBox A n c w w4) := Lib.hid ((HY.out.on HB3.out).ran (HO.out.onb HB3.out) HRN.out)
      have HML : Hid (m + b.length = (L.take (j + 1)).flatten.length) := Lib.hid (by rw [← HN.out, List.length_append, ← HM.out])
      go_roundw
      case rel => exact ⟨j + 1, m + b.length, v', by go_num, by omega, rfl, by omega, HML, HB4, HF⟩
      case measure => simp only [intOf]; omega
    · obtain rfl : n = j := by omega
      have hE : L.take n = L := List.take_of_length_le (by rw [HLN.out]; exact Nat.le_refl _)
      have HE : Hid (m = L.flatten.length ∧ Mid wr (w.heap.size + 1) 3 1 (.slice A1 m c1) m (ks .i64 (nb L.flatten))) := Lib.hid (by
        have h1 := HM.out; have h2 := HO.out
        rw [hE] at h1 h2; exact ⟨h1, h2⟩)
      clear hE HO HM
      go_wp2
      go_ret
      exact ⟨A1, c1, by rw [← HE.out.1]; rfl, HY.out.bel, by rw [← HE.out.1]; exact HE.out.2.lower (Nat.le_succ _)⟩
def EncB (b : List Nat) (w : World) (e : Ending) (w' : World) : Prop := ∃ A1 m c1, e = .returned (.slice A1 m c1) ∧ Below w.heap.size w w' ∧ Mid w' w.heap.size 5 1 (.slice A1 m c1) m (ks .u8 (eb b))
theorem enc_any (A : Option Addr) (n c : Nat) (b : List Nat) (w : World) (h : SK .i64 w w.heap.size A n c (nb b)) (hr : rightN b = true) :
    Calls Try.prog 32 #[.slice A n c] w (EncB b w) := by
  have hm := h.2.1
  unfold maxLen at hm
  refine (encode_any A n c (nb b) w h.2.2.2 (by have := h.1; omega)).mono ?_
  rintro e w' ⟨v, bs, rfl, hb, hmid, _, _, ho⟩
  obtain ⟨A1, c1, rfl⟩ := hmid.form
  refine ⟨A1, _, c1, rfl, hb, ?_⟩
  rcases ho with ⟨h1, _⟩ | ⟨l, h1, _, h3⟩
  · rw [show nb b = b.map Nat.cast from rfl, rightI_cast, hr] at h1; cases h1
  · have : b = l := nb_inj h1
    subst this
    unfold eb
    rw [← h3]
    exact hmid
/-- The three boxes of 'with'. -/
structure W3 (A : Option Addr) (n c : Nat) (V : Value) (w wr : World) : Prop where
  bel : Below w.heap.size w wr
  b0 : wr.heap[w.heap.size]? = some (.cells #[.slice A n c] 24 (0, 0))
  b1 : wr.heap[w.heap.size + 1]? = some (.cells #[.slice none 0 0] 24 (0, 0))
  b2 : wr.heap[w.heap.size + 2]? = some (.cells #[V] 24 (0, 0))
theorem lt_of_heap {w : World} {b : Nat} {o : Obj} (h : w.heap[b]? = some o) : b < w.heap.size := (Array.getElem?_eq_some_iff.1 h).1
section
variable {A : Option Addr} {n c : Nat} {V V' : Value} {w wr w' : World}
theorem W3.lt (h : W3 A n c V w wr) : w.heap.size + 3 ≤ wr.heap.size := lt_of_heap h.b2
theorem W3.on (h : W3 A n c V w wr) (hb : Below wr.heap.size wr w') : W3 A n c V w w' := by
  have := h.lt
  exact ⟨h.bel.trans (hb.mono (by omega)), (hb.block _ (by omega)).trans h.b0, (hb.block _ (by omega)).trans h.b1, (hb.block _ (by omega)).trans h.b2⟩
theorem W3.ran {t : TypeId} {m : Nat} {U U' : Value} {xs : List Value} (h : W3 A n c V w wr) (hm : Mid wr (w.heap.size + 3) t 1 U m xs) (hr : Ran U U' wr w') : W3 A n c V w w' := by
  have hl := h.lt
  have ne : ∀ k, k < w.heap.size + 3 → some k ≠ U.ownBlock := fun k hk e => by have := (hm.lt k e.symm).1; omega
  exact ⟨h.bel.grown hr.grown (by omega) (fun g hg => by have := (hm.lt g hg).1; omega), (hr.grown.block _ (by omega) (ne _ (by omega))).trans h.b0, (hr.grown.block _ (by omega) (ne _ (by omega))).trans h.b1, (hr.grown.block _ (by omega) (ne _ (by omega))).trans h.b2⟩
theorem heap_set_one {b : Nat} {v u : Value} {t : TypeId} (h : wr.heap[b]? = some (.cells #[v] t (0, 0))) : (wr.setCell ⟨b, 0, none⟩ u).heap[b]? = some (.cells #[u] t (0, 0)) := by
  have := heap_setCell_same wr b 0 #[v] t u h
  simpa using this
theorem W3.set (h : W3 A n c V w wr) (U : Value) : W3 A n c U w (wr.setCell ⟨w.heap.size + 2, 0, none⟩ U) :=
  ⟨h.bel.setCell (by simp) _, (heap_setCell_other wr _ _ _ (by simp)).trans h.b0, (heap_setCell_other wr _ _ _ (by simp)).trans h.b1, heap_set_one h.b2⟩
theorem W3.new (A : Option Addr) (n c : Nat) (w : World) : W3 A n c (.slice none 0 0) w (((w.alloc (.cells #[.slice A n c] 24)).alloc (.cells #[.slice none 0 0] 24)).alloc (.cells #[.slice none 0 0] 24)) := by
  refine ⟨(((Below.refl _ _).alloc (Nat.le_refl _) _).alloc (by simp) _).alloc (by simp; omega) _, ?_, ?_, ?_⟩
  · rw [heap_alloc_old _ _ (by simp; omega), heap_alloc_old _ _ (by simp)]; exact heap_alloc_new _ _
  · have := heap_alloc_new (w.alloc (.cells #[.slice A n c] 24)) (.cells #[.slice none 0 0] 24)
    rw [heap_alloc_old _ _ (by simp)]; simpa using this
  · have := heap_alloc_new ((w.alloc (.cells #[.slice A n c] 24)).alloc (.cells #[.slice none 0 0] 24)) (.cells #[.slice none 0 0] 24)
    simpa using this
end
end Go.Proofs.Ytokjeglhmmijfaa
