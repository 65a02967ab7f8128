/-
  One block of a posting list; the block of an id; conditions: a right list.
-/
import Derived.Test.YtokjeglhmmijfaaPs2
namespace Go.Proofs.Ytokjeglhmmijfaa
open Go.RowKit Go.WideShapes Go.ChangeShapes
set_option linter.all false
/-- Ids in a row of the call's own. -/
def IdsP (b : List Nat) (w : World) (e : Ending) (w' : World) : Prop := ∃ A1 c1, e = .returned (.slice A1 b.length c1) ∧ Below w.heap.size w w' ∧ Mid w' w.heap.size 3 1 (.slice A1 b.length c1) b.length (ks .i64 (nb b))
def DecB (b : List Nat) (w : World) (e : Ending) (w' : World) : Prop := ∃ A1 c1, e = .returned (.tuple #[.slice A1 b.length c1, .int .i64 0]) ∧ Below w.heap.size w w' ∧ Mid w' w.heap.size 3 1 (.slice A1 b.length c1) b.length (ks .i64 (nb b))
theorem eb_byte (b : List Nat) : ∀ x ∈ encGo 0 b, x < 256 := encGo_byte b 0
theorem dec_any (A : Option Addr) (n c : Nat) (b : List Nat) (w : World) (h : SK .u8 w w.heap.size A n c (eb b)) (hr : rightN b = true) :
    Calls Try.prog 47 #[.slice A n c] w (DecB b w) := by
  have hm := h.2.1
  unfold maxLen at hm
  refine (decode_any A n c (encGo 0 b) w h.2.2.2 (eb_byte b) h.1 (by have := h.1; omega)).mono ?_
  rintro e w' ⟨v, l, code, rfl, hb, hmid, ho⟩
  rw [(decP_iff (encGo 0 b) b).2 ⟨hr, rfl⟩] at ho
  rcases ho with ⟨hs, rfl⟩ | ⟨hs, _⟩
  · injection hs with hs
    subst hs
    obtain ⟨A1, c1, rfl⟩ := hmid.form
    exact ⟨A1, c1, rfl, hb, hmid⟩
  · cases hs
set_option maxHeartbeats 800000 in
theorem block_any (A : Option Addr) (n c k : Nat) (L : List (List Nat)) (w : World) (h : PL w w.heap.size A n c L) (hR : RL L) (hk : k < n) :
    Calls Try.prog 35 #[plV A n c, .int .i64 k] w (IdsP (L.getD k []) w) := by
  have hl : k < L.length := by rw [h.len]; exact hk
  have hr : rightN (L.getD k []) = true := hR.right (by rw [List.getD_eq_getElem?_getD, List.getElem?_eq_getElem hl]; exact List.getElem_mem hl)
  obtain ⟨ad, A1, n1, c1, rfl, hc, hs⟩ := h.at_ hk
  have HS := Lib.hid hs
  have HR := Lib.hid hr
  obtain ⟨b, hb⟩ : ∃ b, b = L.getD k [] := ⟨_, rfl⟩
  rw [← hb] at HS HR ⊢
  have hlt : (ad.add k).block < w.heap.size := World.block_lt_of_cell? w _ hc
  clear hb hr hs h hR hl
  unfold plV
  go_enter Try.func35, Try.ntmps35
  go_wp2_with (first
    | (go_at_call 47; refine (dec_any A1 n1 c1 b _ (HS.out.on (below_alloc _ _)) HR.out).mono ?_; rintro e w2 ⟨A2, c2, rfl, hb2, hm2⟩
       have HB2 := Lib.hid hb2
       have HM2 := Lib.hid hm2
       clear hb2 hm2)
    | fail)
  go_ret
  exact ⟨A2, c2, rfl, (below_alloc _ _).trans (HB2.out.mono (by simp)), HM2.out.lower (by simp)⟩
end Go.Proofs.Ytokjeglhmmijfaa
