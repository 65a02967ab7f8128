/-
  Rooms behind lists: what Roomy and Intact answer; conditions: lengths.
-/
import Derived.Test.YtdkokpaboipamaaPk4
import Derived.Laws.CopyOwn
import Derived.Laws.Rows
namespace Go.Proofs.Ytdkokpaboipamaa
open Go.RowKit Go.WideShapes Go.ChangeShapes
set_option linter.all false
def Blk (w : World) (g : Nat) (t : TypeId) (cs : Array Value) : Prop := w.heap[g]? = some (.cells cs t (0, 0))

section
variable {w w' : World} {g : Nat} {t : TypeId} {cs : Array Value}
theorem Blk.lt (h : Blk w g t cs) : g < w.heap.size := by
  rcases Nat.lt_or_ge g w.heap.size with hlt | hge
  · exact hlt
  · unfold Blk at h; rw [Array.getElem?_eq_none hge] at h; cases h
theorem Blk.cell (h : Blk w g t cs) (i : Nat) : w.cell? ⟨g, i, none⟩ = cs[i]? := cell_of_row w g i cs t (0, 0) h
theorem Blk.frozen (h : Blk w g t cs) (i : Nat) : w.frozen? ⟨g, i, none⟩ = false := by
  unfold Blk at h
  simp [World.frozen?, h]
theorem Blk.new (w : World) (t : TypeId) (cs : Array Value) : Blk (w.alloc (.cells cs t)) w.heap.size t cs := heap_alloc_new w _
theorem Blk.drew (h : Blk w g t cs) : Blk w.drew g t cs := h
theorem Blk.drewN (h : Blk w g t cs) (n : Nat) : Blk (w.drewN n) g t cs := h
theorem Blk.alloc (h : Blk w g t cs) (o : Obj) : Blk (w.alloc o) g t cs := (Below.heap_alloc w o g h.lt).trans h
theorem Blk.set_ (h : Blk w g t cs) (i : Nat) (u : Value) : Blk (w.setCell ⟨g, i, none⟩ u) g t (cs.setIfInBounds i u) := by
  unfold Blk at h ⊢
  simp [World.setCell, Array.getElem?_modify, h]
theorem Blk.far (h : Blk w g t cs) {p : Addr} (hp : g ≠ p.block) (u : Value) : Blk (w.setCell p u) g t cs := (Below.heap_setCell w p u g hp).trans h
theorem Blk.below {B : Nat} (h : Blk w g t cs) (hb : Below B w w') (hg : g < B) : Blk w' g t cs := (hb.block g hg).trans h
theorem Blk.grown {row : Option Nat} (h : Blk w g t cs) (hb : w.grownBy w' row) (hg : some g ≠ row) : Blk w' g t cs := (hb.block g h.lt hg).trans h
theorem Blk.ne_ {g' : Nat} {t' : TypeId} {cs' : Array Value} (h : Blk w g t cs) (h' : Blk w g' t' cs') (hne : t ≠ t') : g ≠ g' := by
  rintro rfl
  unfold Blk at h h'
  rw [h] at h'
  injection h' with h'
  injection h' with _ ht
  exact hne ht
theorem own_blk_ne {base : Nat} {e : TypeId} {size n : Nat} {v : Value} {xs : List Value} (h : w.ownsRow base e size v n xs) (hg : Blk w g t cs) (hne : e ≠ t) : v.ownBlock ≠ some g := by
  rcases h.2 with ⟨rfl, _⟩ | ⟨g', cap, cur, rfl, _, hh, _⟩
  · simp [Value.ownBlock]
  · intro he
    have : g' = g := by simpa [Value.ownBlock] using he
    subst this
    exact Blk.ne_ (t := e) hh hg hne rfl
end

/-- Block g is just these words. -/
def WB (w : World) (g : Nat) (xs : List Int) : Prop := Blk w g 24 (u64s xs).toArray
theorem own_wb {w : World} {B g n : Nat} {xs : List Int} (h : w.ownsRow B 24 1 (sl g n) n (u64s xs)) : WB w g xs := by
  rcases h.2 with ⟨h', _⟩ | ⟨g', cap', cur, h', hb, hg, hnc, hcm, hcs, htake⟩
  · simp [sl] at h'
  · simp only [sl, Value.slice.injEq, Option.some.injEq, Addr.mk.injEq, and_true, true_and] at h'
    obtain ⟨rfl, rfl⟩ := h'
    have : cur = (u64s xs).toArray := by
      apply Array.ext'
      rw [← htake, List.take_of_length_le (by simp [hcs])]
    unfold WB Blk
    rw [hg, this]
theorem WB.cell {w : World} {g : Nat} {xs : List Int} (h : WB w g xs) (j : Nat) (hj : j < xs.length) : w.cell? ⟨g, j, none⟩ = some (.int .u64 (xs.getD j 0)) := by
  rw [Blk.cell h]
  simpa using u64s_get xs j hj
theorem WB.set_ {w : World} {g : Nat} {xs : List Int} (h : WB w g xs) (j : Nat) (u : Int) : WB (w.setCell ⟨g, j, none⟩ (.int .u64 u)) g (xs.set j u) := by
  have := Blk.set_ h j (.int .u64 u)
  unfold WB u64s at *
  rw [List.map_set]
  simpa using this
theorem WB.reads {w : World} {g : Nat} {xs : List Int} (h : WB w g xs) (B : Nat) (hB : g < B) (o n : Nat) (hn : o + n ≤ xs.length) : Reads w B 1 (some ⟨g, o, none⟩) n (u64s ((xs.drop o).take n)) := by
  refine ⟨by simp [u64s]; omega, fun _ => ⟨_, rfl, hB, fun j u hu => ?_⟩⟩
  have hl : j < ((xs.drop o).take n).length := by
    have := (List.getElem?_eq_some_iff.1 hu).1
    simpa [u64s] using this
  have e : (⟨g, o, none⟩ : Addr).add j = ⟨g, o + j, none⟩ := by unfold Addr.add; split <;> simp_all
  rw [e, h.cell (o + j) (by simp at hl; omega)]
  unfold u64s at hu
  rw [List.getElem?_map, List.getElem?_eq_getElem hl] at hu
  injection hu with hu
  rw [← hu, List.getElem_take, List.getElem_drop, List.getD_eq_getElem?_getD, List.getElem?_eq_getElem (by simp at hl; omega)]; rfl
def room (xs : List Int) (v : Int) (k : Nat) : List Int := xs ++ (List.replicate k v ++ List.replicate (80 - k) 0)
theorem room_len (xs : List Int) (v : Int) (k : Nat) (h : k ≤ 80) : (room xs v k).length = xs.length + 80 := by simp [room]; omega
theorem room_next (xs : List Int) (v : Int) (k : Nat) (h : k < 80) : (room xs v k).set (xs.length + k) v = room xs v (k + 1) := by
  unfold room
  have e : List.replicate (80 - k) (0 : Int) = 0 :: List.replicate (80 - (k + 1)) 0 := by
    rw [show 80 - k = (80 - (k + 1)) + 1 from by omega]; rfl
  rw [e]
  apply List.ext_getElem
  · simp; omega
  · intro i h1 h2
    rw [List.getElem_set]
    simp only [List.getElem_append, List.length_replicate, List.getElem_replicate, List.getElem_cons]
    split <;> split <;> (try split) <;> (try split) <;> (try split) <;> first | rfl | omega
theorem room_end (xs : List Int) (v : Int) : room xs v 80 = xs ++ List.replicate 80 v := by simp [room]
def RInv (xs : List Int) (v : Int) (w : World) (k : Nat) (wr : World) : Prop := WB wr w.heap.size (room xs v k) ∧ Below w.heap.size w wr
theorem RInv.next {xs : List Int} {v : Int} {w wr : World} {k : Nat} (h : RInv xs v w k wr) (hk : k < 80) : RInv xs v w (k + 1) (wr.setCell ⟨w.heap.size, xs.length + k, none⟩ (.int .u64 v)) := by
  refine ⟨?_, h.2.setCell (by simp) _⟩
  rw [← room_next xs v k hk]
  exact h.1.set_ _ _
def RoomyPost (xs : List Int) (v : Int) (w : World) (e : Ending) (w' : World) : Prop := e = .returned (sl w.heap.size (xs.length + 80)) ∧ WB w' w.heap.size (xs ++ List.replicate 80 v) ∧ Below w.heap.size w w'
theorem size24 : (Try.prog.info? 24).map (·.size) = some 1 := by kernel_rfl
theorem splice0 (xs : List Int) (n : Nat) (h : xs.length = n) (v : Int) : splice (u64s (List.replicate (n + 80) 0)) 0 (u64s xs) = u64s (room xs v 0) := by
  unfold splice room u64s
  simp [h]
theorem u64s_one (xs : List Int) : ∀ v ∈ u64s xs, v.oneCell' = true := by
  intro v hv
  unfold u64s at hv
  obtain ⟨x, _, rfl⟩ := List.mem_map.1 hv
  rfl
set_option maxHeartbeats 1600000 in
theorem roomy_any (A : Option Addr) (n c : Nat) (xs : List Int) (v : Int) (w : World) (hx : Reads w w.heap.size 1 A n (u64s xs)) (hn : n ≤ 1000) :
    Calls Try.prog 9 #[.slice A n c, .int .u64 v] w (RoomyPost xs v w) := by
  have LX : Hid (xs.length = n) := hx.u64
  obtain ⟨i0, hi0, hz0, hz1, hz2⟩ := info_parts info24
  go_enter Try.func9, Try.ntmps9
  go_wp2_with (first
    | (refine wpList_make_full _ rfl (.tmp 9) (.tmp 9) 22 rfl w.heap.size 24 i0 (.int .u64 0) 1 Try.underlying22 hi0 hz0 hz1 .i64 .i64 _ _ (n + 80) rfl rfl (by simp) (by simp) (by rw [hz2]; omega) (by unfold maxLen; omega) (Nat.le_refl _) ?_
       intro w1 hown hg1
       rw [zeros_u64] at hown
       have hwb := own_wb hown
       have hb1 : Below w.heap.size w w1 := (Below.refl _ _).grown hg1 (Nat.le_refl _) (by simp)
       have hx1 := hx.below hb1
       clear hown hg1)
    | (refine wpList_copy_splice rfl (.tmp 11) (.tmp 12) 22 22 rfl 24 Try.underlying22 size24 (some ⟨w.heap.size, 0, none⟩) A (n + 80) (n + 80) n c rfl rfl w.heap.size 0 (u64s (List.replicate (n + 80) 0)) 24 hwb (u64s xs) (by rw [u64s_len, LX.out]; exact (Nat.min_eq_left (by omega)).symm) (fun hp => ⟨rfl, by
         obtain ⟨ad, e, _, hc⟩ := hx1.2 (by rw [u64s_len, LX.out] at hp; exact hp)
         exact ⟨ad, e, hc⟩⟩) (by simp [u64s_len, LX.out]) (u64s_one xs) w.heap.size w hb1 (Nat.le_refl _) ?_
       intro w2 hw2 hb2
       rw [splice0 xs n LX.out 0] at hw2)
    | fail)
  have HI : RInv xs v w 0 w2 := ⟨hw2.out, hb2⟩
  clear hw2 hb2 hx1 hb1 hwb
  go_loopw [6] (fun i wr => ∃ k : Nat, k ≤ 80 ∧ i = .int .i64 ((n + k : Nat)) ∧ RInv xs v w k wr) (fun i _ => n + 80 - (intOf i).toNat)
  case atStart => exact ⟨0, Nat.zero_le _, by simp, HI⟩
  case round =>
    obtain ⟨k, hk, rfl, HW⟩ := hrel
    by_cases hlt : k < 80
    · have hcell := HW.1.cell (n + k) (by rw [room_len _ _ _ hk, LX.out]; omega)
      have hfr := Blk.frozen HW.1 (n + k)
      go_wp2
      go_roundw
      case rel => exact ⟨k + 1, by omega, by simp; omega, by have := HW.next hlt; rw [LX.out] at this; exact this⟩
      case measure => simp only [intOf]; omega
    · have hkk : k = 80 := by omega
      have HF : RInv xs v w 80 wr := hkk ▸ HW
      have hnl : ¬ ((n : Int) + k < (n : Int) + 80) := by omega
      clear HW hkk
      go_wp2
      go_ret
      exact ⟨by unfold sl; rw [LX.out]; rfl, by have := HF.1; rw [room_end] at this; exact this, HF.2⟩
end Go.Proofs.Ytdkokpaboipamaa
