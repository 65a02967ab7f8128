/-
  The block of an id: the closure; conditions: a right list.
-/
import Derived.Test.YtokjeglhmmijfaaPs4
import Derived.Test.YtokjeglhmmijfaaAnyT
import Derived.Deep.CutBlock
import Derived.Deep.CutRange
namespace Go.Proofs.Ytokjeglhmmijfaa
open Go.RowKit Go.WideShapes Go.ChangeShapes
set_option linter.all false
set_option maxRecDepth 100000 in
set_option maxHeartbeats 1600000 in
theorem first_any (A : Option Addr) (n c k : Nat) (L : List (List Nat)) (x : Int) (P Q : Nat) (w : World) (h : PL w w.heap.size A n c L) (hR : RL L) (hk : k < n) (b : Bool) (hb : b = decide (cntL x L ≤ k))
    (hP : w.cell? ⟨P, 0, none⟩ = some (.slice A n c)) (hQ : w.cell? ⟨Q, 0, none⟩ = some (.int .i64 x)) :
    Calls Try.prog 46 #[.int .i64 k, .pointer (some ⟨P, 0, none⟩), .pointer (some ⟨Q, 0, none⟩)] w fun e w' => e = .returned (.bool b) ∧ Below w.heap.size w w' := by
  have hl : k < L.length := by rw [h.len]; exact hk
  have hci := cntL_iff (x := x) hR hl
  have hr : rightN (L.getD k []) = true := hR.right (by rw [List.getD_eq_getElem?_getD, List.getElem?_eq_getElem hl]; exact List.getElem_mem hl)
  obtain ⟨bl, hbl⟩ : ∃ bl, bl = L.getD k [] := ⟨_, rfl⟩
  rw [← hbl] at hci hr
  have h1 : 1 ≤ bl.length := by unfold rightN at hr; simp at hr; omega
  have hh : ((nb bl).getD 0 0) = ((bl.headD 0 : Nat) : Int) := by cases bl with
    | nil => simp at h1
    | cons y r => rfl
  obtain ⟨y, hy⟩ : ∃ y, y = bl.headD 0 := ⟨_, rfl⟩
  rw [← hy] at hci hh
  have HBB : Hid (decide (x < (y : Int)) = b) := Lib.hid (by rw [hb, decide_eq_decide]; omega)
  have HH := Lib.hid hh
  have HBL := Lib.hid hbl
  have HP := Lib.hid hP
  have HQ := Lib.hid hQ
  have HPl := Lib.hid (World.block_lt_of_cell? w _ hP)
  have HQl := Lib.hid (World.block_lt_of_cell? w _ hQ)
  have HL := Lib.hid h
  have HR := Lib.hid hR
  have h1' : (0 : Int) < bl.length := by omega
  have h1'' : 0 < bl.length := h1
  clear hb hci hr hbl hy hh h hR hl h1
  go_enter Try.func46, Try.ntmps46
  go_upto_region 1 with (fail)
  have hS : (fun w' : World => w'.cell? ⟨P, 0, none⟩ = some (.slice A n c) ∧ w'.cell? ⟨Q, 0, none⟩ = some (.int .i64 x)) w.drew := ⟨HP.out, HQ.out⟩
  refine wp_region_T (fun w' : World => w'.cell? ⟨P, 0, none⟩ = some (.slice A n c) ∧ w'.cell? ⟨Q, 0, none⟩ = some (.int .i64 x)) 7 (by kernel_rfl) ?_
  refine wpAnyT_take (i := 0) (oi := _) (v := ?_) (by rfl) (by kernel_rfl) (by intro _ _ _ h; exact h) hS (Or.inl ⟨by rfl, ?_⟩) ?_
  rotate_left 1
  · intro w' ⟨hl1, hl2⟩
    go_simp
    all_goals with_reducible rfl
  simp only [Act.put, List.setIfInBounds_toArray, List.set_cons_zero, List.set_cons_succ]
  refine wpAnyT_take (i := 1) (oi := _) (v := ?_) (by rfl) (by kernel_rfl) (by intro _ _ _ h; exact h) hS (Or.inl ⟨by rfl, ?_⟩) ?_
  rotate_left 1
  · intro w' ⟨hl1, hl2⟩
    go_simp
    all_goals with_reducible rfl
  simp only [Act.put, List.setIfInBounds_toArray, List.set_cons_zero, List.set_cons_succ]
  refine wpAnyT_take (i := 5) (oi := _) (v := ?_) (by rfl) (by kernel_rfl) (by intro _ _ _ h; exact h) hS (Or.inl ⟨by rfl, ?_⟩) ?_
  rotate_left 1
  · intro w' ⟨hl1, hl2⟩
    go_simp
    all_goals with_reducible rfl
  simp only [Act.put, List.setIfInBounds_toArray, List.set_cons_zero, List.set_cons_succ]
  refine wpAnyT_all (rs := [2]) (by kernel_rfl) (by simp) ?_
  intro ix hix
  simp only [List.mem_cons, List.not_mem_nil, or_false] at hix
  subst hix
  refine wpT_op (o := _) (by rfl) (fun K hK => ?_)
  go_simp
  go_at_call 35
  refine (block_any A n c k L _ (HL.out.on (below_drew _)) HR.out hk).mono ?_
  rintro e w2 ⟨A2, c2, rfl, hb2, hm2⟩
  rw [← HBL.out] at hm2 ⊢
  have hS2 : (fun w' : World => w'.cell? ⟨P, 0, none⟩ = some (.slice A n c) ∧ w'.cell? ⟨Q, 0, none⟩ = some (.int .i64 x)) w2 := ⟨(hb2.cell (p := ⟨P, 0, none⟩) HPl.out).trans HP.out, (hb2.cell (p := ⟨Q, 0, none⟩) HQl.out).trans HQ.out⟩
  have g0 := hm2.reads.kat (k := 0) h1''
  rw [HH.out] at g0
  obtain ⟨ad0, rfl, g1⟩ := g0
  have g2 : w2.cell? ad0 = some (.int .i64 (y : Int)) := by simpa [Addr.add] using g1
  clear g1
  have HB2 := Lib.hid hb2
  clear hb2 hm2
  refine hK _ _ (fun _ => hS2) ?_
  clear hK K
  try simp only [Act.put, List.setIfInBounds_toArray, List.set_cons_zero, List.set_cons_succ]
  refine wpAnyT_all (rs := [3]) (by kernel_rfl) (by simp) ?_
  intro ix hix
  simp only [List.mem_cons, List.not_mem_nil, or_false] at hix
  subst hix
  refine wpT_op (o := _) (by rfl) (fun K hK => ?_)
  go_simp
  refine hK _ _ (fun _ => hS2) ?_
  clear hK K
  try simp only [Act.put, List.setIfInBounds_toArray, List.set_cons_zero, List.set_cons_succ]
  refine wpAnyT_all (rs := [4]) (by kernel_rfl) (by simp) ?_
  intro ix hix
  simp only [List.mem_cons, List.not_mem_nil, or_false] at hix
  subst hix
  refine wpT_op (o := _) (by rfl) (fun K hK => ?_)
  go_simp
  refine hK _ _ (fun _ => hS2) ?_
  clear hK K
  try simp only [Act.put, List.setIfInBounds_toArray, List.set_cons_zero, List.set_cons_succ]
  refine wpAnyT_all (rs := [6]) (by kernel_rfl) (by simp) ?_
  intro ix hix
  simp only [List.mem_cons, List.not_mem_nil, or_false] at hix
  subst hix
  refine wpT_op (o := _) (by rfl) (fun K hK => ?_)
  go_simp
  refine hK _ _ (fun _ => hS2) ?_
  clear hK K
  try simp only [Act.put, List.setIfInBounds_toArray, List.set_cons_zero, List.set_cons_succ]
  refine wpAnyT_all (rs := [7]) (by kernel_rfl) (by simp) ?_
  intro ix hix
  simp only [List.mem_cons, List.not_mem_nil, or_false] at hix
  subst hix
  refine wpT_op (o := _) (by rfl) (fun K hK => ?_)
  go_simp
  refine hK _ _ (fun h => absurd h (by omega)) ?_
  clear hK K
  try simp only [Act.put, List.setIfInBounds_toArray, List.set_cons_zero, List.set_cons_succ]
  refine wpAnyT_done (by kernel_rfl) ?_ _
  go_wp2
  go_ret
  exact ⟨by rw [HBB.out]; rfl, (below_drew w).trans HB2.out⟩
end Go.Proofs.Ytokjeglhmmijfaa
