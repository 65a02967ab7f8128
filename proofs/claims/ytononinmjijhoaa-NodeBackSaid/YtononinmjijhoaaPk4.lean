/-
  What the program's Bytes answers; conditions: lengths.
-/
import Derived.Test.YtononinmjijhoaaPk3
namespace Go.Proofs.Ytononinmjijhoaa
open Go.RowKit Go.WideShapes Go.ChangeShapes
set_option linter.all false
set_option maxHeartbeats 1600000 in
theorem pbytes_any (A : Option Addr) (n c : Nat) (m : Nat) (xs : List Int) (w : World) (hx : Reads w w.heap.size 1 A n (u64s xs)) (hn : n ≤ 1000) (hm : m ≤ 8 * n) :
    Calls Try.prog 55 #[.slice A n c, .int .i64 m] w (BytesPost xs m (zfB xs m) w) := by
  have LX : Hid (xs.length = n) := hx.u64
  obtain ⟨i0, hi0, hz0, hz1, hz2⟩ := info_parts info5
  have hno : ¬ (8 * (n : Int) < m) := by omega
  have hno2 : ¬ ((m : Int) < 0) := by omega
  have hno3 : decide ((m : Int) < 0) = false := decide_eq_false hno2
  cases hzf : zfB xs m
  · have hza := fun w => zero_any w.heap.size A n c m xs w
    go_enter Try.func55, Try.ntmps55
    go_wp2_with (first
      | (go_at_call 62; refine (zero_any _ A n c m xs _ hx hn hm).mono ?_; rintro e w' ⟨rfl, rfl⟩; rw [hzf])
      | fail)
    go_ret2
    exact ⟨rfl, Below.refl _ _⟩
  · go_enter Try.func55, Try.ntmps55
    go_wp2_with (first
      | (go_at_call 62; refine (zero_any _ A n c m xs _ hx hn hm).mono ?_; rintro e w' ⟨rfl, rfl⟩; rw [hzf])
      | (refine wpList_make_full _ rfl (.tmp 21) (.tmp 21) 23 rfl w.heap.size 5 i0 (.int .u8 0) 1 Try.underlying23 hi0 hz0 hz1 .i64 .i64 _ _ m rfl rfl rfl rfl (by rw [hz2]; omega) (by unfold maxLen; omega) (Nat.le_refl _) ?_
         intro w1 hown hg1
         rw [zeros_u8 m xs] at hown)
      | fail)
    have HI : BInv xs m w 0 w1 := ⟨hown, (Below.refl _ _).grown hg1 (Nat.le_refl _) (by simp)⟩
    clear hown hg1
    go_loopw [7, 25] (fun _ i wr => ∃ k : Nat, k ≤ m ∧ i = .int .i64 k ∧ BInv xs m w k wr) (fun _ i _ => m - (intOf i).toNat)
    case atStart => exact ⟨0, Nat.zero_le _, rfl, HI⟩
    case round =>
      obtain ⟨k, hk, rfl, HW⟩ := hrel
      by_cases hlt : k < m
      · have hk8 : k / 8 < n := by omega
        obtain ⟨ad, rfl, h1⟩ := (hx.below HW.2).u64at hk8
        have hcell := HW.cell k hlt
        have hi1 : (k : Int) / 8 < (n : Int) := by omega
        have hi2 : (0 : Int) ≤ (k : Int) / 8 := by omega
        have hi4 : ((k : Int) / 8).toNat = k / 8 := by omega
        have hi5 : (k : Int) < m := by omega
        have hi6 : (0 : Int) ≤ k := by omega
        have W1 : IntKind.i64.wrap ((k : Int) / 8) = (k : Int) / 8 := IntWalk.i64_in _ (by omega)
        go_wp2
        refine wp_region_still_tail 12 (by kernel_rfl) (by kernel_rfl) ?_
        simp only [List.take_succ_cons, List.take_zero, List.drop_succ_cons, List.drop_zero]
        repeat still_step
        refine wpStill_step (fun K hK => ?_)
        go_simp
        have hj1 : (0 : Int) ≤ 8 * ((k : Int) % 8) := by omega
        have hj2 : 8 * ((k : Int) % 8) < 64 := by omega
        have hj3 : (8 * ((k : Int) % 8)).toNat = 8 * (k % 8) := by omega
        have hj4 : ((8 * (k % 8) : Nat) : Int) = 8 * ((k : Int) % 8) := by omega
        refine ⟨_, (shift_any k _ (by omega)).mono (fun e w'' h => ⟨h.1, h.2.symm⟩), hK _ ?_⟩
        clear hK K
        rw [hj4]
        repeat still_step
        refine wpStill_nil ?_
        change wpList _ _ _ _ _ wr.drew
        generalize hw2 : wr.drew = w2
        have HW2 : BInv xs m w k w2 := hw2 ▸ HW.drew
        have hfr2 : w2.frozen? ⟨w.heap.size, k, none⟩ = false := World.ownsRow.frozenAt HW2.1 _
        have hcell2 := HW2.cell k hlt
        clear hw2 W1
        go_wp2
        go_roundw
        case rel => exact ⟨k + 1, by omega, by go_num, HW2.next hlt⟩
        case measure => simp only [intOf]; omega
      · have hkk : k = m := by omega
        have HF : BInv xs m w m wr := hkk ▸ HW
        clear HW hkk
        have hconv := conv_any HF
        go_wp2
        go_ret2
        exact ⟨rfl, HF.2⟩
end Go.Proofs.Ytononinmjijhoaa
