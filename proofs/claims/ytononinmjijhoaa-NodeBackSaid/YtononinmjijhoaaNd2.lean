/-
  node.High, lockedAndDead, ascending, ContainsFunc at refs, Right: of a right node; conditions: lengths.
-/
import Derived.Test.YtononinmjijhoaaNd1
import Derived.Test.YtononinmjijhoaaFr
import Derived.Deep.QuietTactic
import Derived.BigQuiet
import Derived.Deep.RegionHeld3
namespace Go.Proofs.Ytononinmjijhoaa
open Go.RowKit Go.WideShapes Go.ChangeShapes
set_option linter.all false
def highV (k : Int) : Int := if k = 1 then 4 else if k = 2 then 16 else if k = 3 then 48 else if k = 4 then 256 else 0
set_option maxRecDepth 100000 in
theorem high_any (k : Int) (w : World) : Calls Try.prog 12 #[.int .i64 k] w fun e w' => e = .returned (.int .i64 (highV k)) ∧ w' = w := by
  by_cases h1 : k = 1
  · subst h1
    go_enter Try.func12, Try.ntmps12
    go_wp2
    go_ret
    exact ⟨rfl, rfl⟩
  · by_cases h2 : k = 2
    · subst h2
      go_enter Try.func12, Try.ntmps12
      go_wp2
      go_ret
      exact ⟨rfl, rfl⟩
    · by_cases h3 : k = 3
      · subst h3
        go_enter Try.func12, Try.ntmps12
        go_wp2
        go_ret
        exact ⟨rfl, rfl⟩
      · by_cases h4 : k = 4
        · subst h4
          go_enter Try.func12, Try.ntmps12
          go_wp2
          go_ret
          exact ⟨rfl, rfl⟩
        · have e1 : (k == 1) = false := by simpa using h1
          have e2 : (k == 2) = false := by simpa using h2
          have e3 : (k == 3) = false := by simpa using h3
          have e4 : (k == 4) = false := by simpa using h4
          have HV : Hid (highV k = 0) := Lib.hid (by unfold highV; rw [if_neg h1, if_neg h2, if_neg h3, if_neg h4])
          clear h1 h2 h3 h4
          go_enter Try.func12, Try.ntmps12
          go_wp2
          go_ret
          exact ⟨by rw [HV.out]; rfl, rfl⟩
set_option maxRecDepth 100000 in
theorem dead_any (x : Int) (w : World) : Calls Try.prog 35 #[.int .u64 x] w fun e w' => e = .returned (.bool (bits .and .u64 x 3 == 3)) ∧ w' = w := by
  go_enter Try.func35, Try.ntmps35
  go_wp2
  go_ret
  exact ⟨rfl, rfl⟩
theorem kget {w : World} {B n : Nat} {A : Option Addr} {k : IntKind} {xs : List Int} (h : Reads w B 1 A n (xs.map (Value.int k))) {i : Nat} (hi : i < n) : ∃ ad, A = some ad ∧ ad.block < B ∧ w.cell? (ad.add i) = some (.int k (xs.getD i 0)) := by
  obtain ⟨ad, u, rfl, hb, hu, hc⟩ := h.at_ hi
  refine ⟨ad, rfl, hb, ?_⟩
  rw [hc, ← hu, List.getElem?_map, List.getD_eq_getElem?_getD]
  rw [List.getElem?_map] at hu
  cases hx : xs[i]? with
  | none => rw [hx] at hu; cases hu
  | some b => rfl
theorem klen {w : World} {B n : Nat} {A : Option Addr} {k : IntKind} {xs : List Int} (h : Reads w B 1 A n (xs.map (Value.int k))) : xs.length = n := by have := h.1; simpa using this
def Asc (xs : List Int) : Prop := ∀ i, i + 1 < xs.length → xs.getD i 0 < xs.getD (i + 1) 0
theorem belowN {B : Nat} {a w : World} (h : Below B a w) (k : Nat) : Below B a (w.drewN k) := ⟨h.os, h.tape, h.output, h.size, h.block⟩
theorem drewN_drew (w : World) (k : Nat) : ∃ q, (w.drewN k).drew = w.drewN q := ⟨k + 1, rfl⟩
set_option maxRecDepth 100000 in
set_option maxHeartbeats 800000 in
theorem asc_any (A : Option Addr) (n c : Nat) (xs : List Int) (w : World) (B : Nat) (hx : Reads w B 1 A n (xs.map (Value.int .u8))) (hn : n ≤ 300) (hs : Asc xs) :
    Calls Try.prog 36 #[.slice A n c] w fun e w' => e = .returned (.bool true) ∧ ∃ m, w' = w.drewN m := by
  have LX : Hid (xs.length = n) := Lib.hid (klen hx)
  go_enter Try.func36, Try.ntmps36
  go_wp2
  go_loopw [3] (fun i wr => ∃ k : Nat, i = .int .i64 ((k + 1 : Nat) : Int) ∧ k ≤ n ∧ Hid (∃ m, wr = w.drewN m)) (fun i _ => n + 1 - (intOf i).toNat)
  case atStart => exact ⟨0, rfl, Nat.zero_le _, Lib.hid ⟨0, rfl⟩⟩
  case round =>
    obtain ⟨k, rfl, hk, HH⟩ := hrel
    by_cases hlt : k + 1 < n
    · obtain ⟨ad, rfl, hb, g0⟩ := kget hx (i := k) (by omega)
      obtain ⟨ad', e', _, g1⟩ := kget hx hlt
      injection e' with e'
      subst e'
      obtain ⟨m0, hm0⟩ := HH.out
      have hc : ∀ p : Addr, wr.cell? p = w.cell? p := fun p => by rw [hm0]; rfl
      rw [← hc] at g0 g1
      have HD : Hid (∃ m, wr.drew = w.drewN m) := Lib.hid ⟨m0 + 1, by rw [hm0]; exact World.drewN_drewN w m0 1⟩
      clear hm0
      have g1' : wr.cell? ⟨ad.block, ad.off + (k + 1), none⟩ = some (.int .u8 (xs.getD (k + 1) 0)) := g1
      have hs1 := hs k (by rw [LX.out]; exact hlt)
      obtain ⟨y, hy⟩ : ∃ y, y = xs.getD k 0 := ⟨_, rfl⟩
      obtain ⟨z, hz⟩ : ∃ z, z = xs.getD (k + 1) 0 := ⟨_, rfl⟩
      rw [← hy] at g0 hs1
      rw [← hz] at g1 g1' hs1
      have hyz : (z ≤ y) = False := eq_false (by omega)
      have hkw : IntKind.i64.wrap (((k + 1 : Nat) : Int) - 1) = (k : Int) := by rw [IntWalk.i64_in _ (by omega)]; omega
      have hk1 : (0 : Int) ≤ (k : Int) := by omega
      have hk2 : (k : Int) < (n : Int) := by omega
      have hk3 : ((k + 1 : Nat) : Int) < (n : Int) := by omega
      clear hy hz hc hx
      go_wp2
      go_big_region
      all_goals
        go_wp2
        go_roundw
        case rel => exact ⟨k + 1, by go_num, by omega, HD⟩
        case measure => simp only [intOf]; omega
    · have hk3 : ¬ ((k + 1 : Nat) : Int) < (n : Int) := by omega
      go_wp2
      go_ret
      exact ⟨rfl, HH.out⟩
def Refs (ys : List Int) : Prop := ∀ i, i < ys.length → ∃ s g l, ys.getD i 0 = refV s g l ∧ 0 ≤ s ∧ s < 1024 ∧ 1 ≤ g ∧ g ≤ 1073741824
set_option maxRecDepth 100000 in
set_option maxHeartbeats 800000 in
theorem index_any (A : Option Addr) (n c : Nat) (ys : List Int) (w : World) (B : Nat) (hx : Reads w B 1 A n (ys.map (Value.int .i64))) (hn : n ≤ 300) (hs : Refs ys) :
    Calls Try.prog 52 #[.slice A n c, .func (.func 29) #[] #[]] w fun e w' => e = .returned (.int .i64 (-1)) ∧ w' = w := by
  have LX : Hid (ys.length = n) := Lib.hid (klen hx)
  go_enter Try.func52, Try.ntmps52
  go_wp2
  go_loopw [8] (fun i wr => ∃ k : Nat, i = .int .i64 k ∧ k ≤ n ∧ wr = w) (fun i _ => n - (intOf i).toNat)
  case atStart => exact ⟨0, rfl, Nat.zero_le _, rfl⟩
  case round =>
    obtain ⟨k, rfl, hk, rfl⟩ := hrel
    by_cases hlt : k < n
    · obtain ⟨ad, rfl, hb, g0⟩ := kget hx hlt
      obtain ⟨s, g, l, hv, q0, q1, q2, q3⟩ := hs k (by rw [LX.out]; exact hlt)
      rw [hv] at g0
      obtain ⟨x, hxx⟩ : ∃ x, x = refV s g l := ⟨_, rfl⟩
      rw [← hxx] at g0
      have HXX := Lib.hid hxx
      clear hxx hv hx
      go_wp2_with (first
        | (go_at_call 29; rw [HXX.out]; refine (noRef_any s g l q0 q1 q2 q3 _).mono ?_; rintro e w' ⟨rfl, rfl⟩)
        | fail)
      go_roundw
      case rel => exact ⟨k + 1, by go_num, by omega, trivial⟩
      case measure => simp only [intOf]; omega
    · go_wp2
      go_ret
      exact ⟨rfl, rfl⟩
set_option maxRecDepth 100000 in
theorem contains_any (A : Option Addr) (n c : Nat) (ys : List Int) (w : World) (B : Nat) (hx : Reads w B 1 A n (ys.map (Value.int .i64))) (hn : n ≤ 300) (hs : Refs ys) :
    Calls Try.prog 37 #[.slice A n c, .func (.func 29) #[] #[]] w fun e w' => e = .returned (.bool false) ∧ w' = w := by
  go_enter Try.func37, Try.ntmps37
  go_wp2_with (first
    | (go_at_call 52; refine (index_any _ _ _ ys _ B hx hn hs).mono ?_; rintro e w' ⟨rfl, rfl⟩)
    | fail)
  go_ret
  exact ⟨rfl, rfl⟩
end Go.Proofs.Ytononinmjijhoaa
