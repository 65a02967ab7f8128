/-
  The law PoolPlays at any calls: the walk; no condition.
-/
import Derived.Test.YtdkokpaboipamaaPn4
import Derived.Test.YtdkokpaboipamaaRuns
import Derived.Test.YtdkokpaboipamaaFr
import Derived.Test.YtdkokpaboipamaaBase
import Derived.Deep.RegionHeld3
namespace Go.Proofs.Ytdkokpaboipamaa
open Go.RowKit Go.WideShapes Go.ChangeShapes
set_option linter.all false
theorem add_one_addr (a : Addr) : a.add 1 = ⟨a.block, a.off + 1, none⟩ := rfl
/-- Whether it stands in a list. -/
def memB (n : Int) (l : List Int) : Bool := decide (n ∈ l)
theorem memB_next (n : Int) (l : List Int) (t : Nat) (h : t < l.length) : memB n (l.take (t + 1)) = (memB n (l.take t) || (l[t]?.getD 0 == n)) := by
  rw [List.take_succ_eq_append_getElem h, List.getElem?_eq_getElem h]
  unfold memB
  rw [Bool.eq_iff_iff]
  simp only [List.mem_append, List.mem_singleton, decide_eq_true_eq, Bool.or_eq_true, Option.getD_some, beq_iff_eq]
  exact ⟨fun h => h.imp id Eq.symm, fun h => h.imp id Eq.symm⟩
/-- The two pools and the call's box at B, whose number is n. -/
structure Px (W : World) (P I Q k B : Nat) (n : Int) (v : Value) (xs : List Int) (A : Option Addr) (c : Nat) (ys : List Int) (w : World) : Prop where
  two : Two W P I Q k v xs A c ys w
  box : w.cell? ⟨B, 1, none⟩ = some (.int .i64 n)
  far : B ≠ P ∧ B ≠ I ∧ B ≠ Q ∧ some B ≠ v.ownBlock
section
variable {W : World} {P I Q k B c : Nat} {n : Int} {v : Value} {xs ys : List Int} {A : Option Addr} {w w' : World}
theorem Px.lt (h : Px W P I Q k B n v xs A c ys w) : B < w.heap.size := World.block_lt_of_cell? _ _ h.box
theorem Px.afterPool (h : Px W P I Q k B n v xs A c ys w) {v' : Value} {xs' : List Int} (hs : St W.heap.size P I k v' xs' w') (hk : Kept P I v v' w w') : Px W P I Q k B n v' xs' A c ys w' := by
  obtain ⟨f1, f2, f3, f4⟩ := h.far
  exact ⟨h.two.afterPool hs hk, (World.cell?_of_block (a := ⟨B, 1, none⟩) (hk.block B h.lt f1 f2 f4)).trans h.box, f1, f2, f3, fun e => f4 (hk.row B h.lt e)⟩
theorem Px.box' (h : Px W P I Q k B n v xs A c ys w) (hk : KeptR Q w w') : w'.cell? ⟨B, 1, none⟩ = some (.int .i64 n) := (World.cell?_of_block (a := ⟨B, 1, none⟩) (hk.block B h.lt h.far.2.2.1)).trans h.box
theorem Px.drew (h : Px W P I Q k B n v xs A c ys w) : Px W P I Q k B n v xs A c ys w.drew := ⟨h.two.below ((Below.refl _ _).drew), h.box, h.far⟩
theorem PutOk.kept {q : Int} (h : RefP Q 0 k A c ys w) (hp : PutOk Q w q ys w') : KeptR Q w w' := by
  obtain ⟨_, _, _, _, _, _, _, hk, _⟩ := hp.refp h
  exact hk
theorem Px.putRef (h : Px W P I Q k B n v xs A c ys w) (r : ys.Pairwise (· < ·)) {q : Int} (hp : PutOk Q w q ys w') : ∃ A' c' ys', Px W P I Q k B n v xs A' c' ys' w' ∧ ys'.Pairwise (· < ·) ∧ ∀ z, z ∈ ys' ↔ z = q ∨ z ∈ ys := by
  obtain ⟨A', c', ys', h1, h2, h3⟩ := h.two.putRef r hp
  exact ⟨A', c', ys', ⟨h1, h.box' (hp.kept h.two.rp), h.far⟩, h2, h3⟩
theorem Px.takeRef {y : Int} (h : Px W P I Q k B n v xs A c (y :: ys) w) (hr : RefP Q 0 k (if c = 1 then A else A.map (·.add 1)) (c - 1) ys w') (hk : KeptR Q w w') : Px W P I Q k B n v xs (if c = 1 then A else A.map (·.add 1)) (c - 1) ys w' := ⟨h.two.takeRef hr hk, h.box' hk, h.far⟩
theorem has_any (h : St W.heap.size P I k v xs w) (n : Int) : Calls Try.prog 25 #[.pointer (some ⟨P, 0, none⟩), .int .i64 n] w fun e w' => e = .returned (.bool (decide (n ∈ xs))) ∧ w' = w := by
  by_cases hn : 0 ≤ n ∧ n < k
  · obtain ⟨m, rfl⟩ := Int.eq_ofNat_of_zero_le hn.1
    exact st_has h m (by omega) _ rfl
  · rw [decide_eq_false (fun hm => hn (h.rng n hm))]
    exact st_has_out h n (by omega)
end
theorem has_memB {W : World} {P I k : Nat} {v : Value} {xs : List Int} {w : World} (h : St W.heap.size P I k v xs w) (n : Int) : Calls Try.prog 25 #[.pointer (some ⟨P, 0, none⟩), .int .i64 n] w fun e w' => e = .returned (.bool (memB n xs)) ∧ w' = w := has_any h n
set_option maxRecDepth 100000 in
set_option maxHeartbeats 400000 in
theorem new_bad (n : Int) (w : World) (hn : n < 0 ∨ 65535 < n) : Calls Try.prog 19 #[.int .i64 n] w fun e w' => e = .returned (.tuple #[.pointer none, .int .i64 1]) ∧ w' = w := by
  have H : Hid (n < 0 ∨ 65535 < n) := hn
  clear hn
  go_enter Try.func19, Try.ntmps19
  go_wp2
  all_goals first
    | (exfalso; have := H.out; omega)
    | (go_ret2; exact ⟨rfl, rfl⟩)
set_option maxRecDepth 100000 in
set_option maxHeartbeats 400000 in
theorem plays_bad (a : Int) (A : Option Addr) (len cap : Nat) (W : World) (ha : a < 0 ∨ 65535 < a) :
    Calls Try.prog 6 #[.int .i64 a, .slice A len cap] W fun e w' => e = .returned (.bool true) ∧ Below W.heap.size W w' := by
  have H : Hid (a < 0 ∨ 65535 < a) := ha
  clear ha
  go_enter Try.func6, Try.ntmps6
  go_wp2_with (first
    | (go_at_call 19; refine (new_bad a _ H.out).mono ?_; rintro e w1 ⟨rfl, rfl⟩)
    | (go_at_call 20; refine (poolRuns_any _).mono ?_; rintro e w9 ⟨rfl, hb9⟩)
    | fail)
  all_goals first
    | (exfalso; have := H.out; omega)
    | (go_ret; exact ⟨rfl, hb9⟩)
set_option maxRecDepth 100000 in
set_option maxHeartbeats 3200000 in
theorem plays_ok (k : Nat) (hk : k ≤ 65535) (A : Option Addr) (len cap : Nat) (F G : Nat → Int) (W : World) (hx : Pairs W A len F G) :
    Calls Try.prog 6 #[.int .i64 k, .slice A len cap] W fun e w' => e = .returned (.bool true) ∧ Below W.heap.size W w' := by
  have hk0 : ¬ (k : Int) < 0 := by omega
  have hk9 : ¬ (k : Int) > 65535 := by omega
  go_enter Try.func6, Try.ntmps6
  go_wp2_with (first
    | (go_at_call 19; refine (st_new k _ hk).mono ?_; rintro e w1 ⟨P, rfl, hS0, hB0⟩)
    | fail)
  have lP : P < w1.heap.size := World.block_lt_of_cell? _ _ hS0.hp.cell
  have hT0 : Two W P W.heap.size w1.heap.size k (.slice none 0 0) [] none 0 [] (w1.alloc (.cells #[.int .i64 k, .slice none 0 0] 46)) := by
    have hI := hS0.hI
    have ha : ∀ o, Below w1.heap.size w1 (w1.alloc o) := fun o => (Below.refl _ _).alloc (Nat.le_refl _) o
    refine ⟨hS0.same2 (Q := w1.heap.size) (fun b hb _ => Below.heap_alloc w1 _ b hb) (by omega) (by omega) (by simp [Value.ownBlock]), ⟨World.cell?_alloc_at _ _ _ _ rfl, World.cell?_alloc_at _ _ _ _ rfl, World.frozen?_alloc_at _ _ _ _ rfl, Reads.none_, Nat.le_refl _, fun ad e => (by cases e)⟩, Nat.zero_le _, ⟨by omega, by omega, by simp [Value.ownBlock], by have := hB0.size; omega⟩, fun ad e => (by cases e), hB0.alloc hB0.size _⟩
  generalize hQ : w1.heap.size = Q at *
  clear hS0 hB0 hQ
  go_loopw [8] (fun i wr => ∃ (j : Nat) (v : Value) (xs : List Int) (A' : Option Addr) (c : Nat) (ys : List Int), i = .int .i64 j ∧ j ≤ 80 ∧ xs.length ≤ j ∧ Rel ys xs ∧ Two W P W.heap.size Q k v xs A' c ys wr) (fun i _ => 80 - (intOf i).toNat)
  case atStart => exact ⟨0, _, _, _, _, _, rfl, by omega, by simp, ⟨List.Pairwise.nil, fun _ => Iff.rfl⟩, hT0⟩
  case round =>
    clear hT0
    obtain ⟨j, v, xs, A', c, ys, rfl, hj, hxl, hR, hT⟩ := hrel
    by_cases hin : j < len ∧ j < 80
    · obtain ⟨g1, g2⟩ := hin
      obtain ⟨ad, rfl, hab, hc0, hc1⟩ := hx j g1
      have hd0 : wr.cell? (ad.add (j * 2)) = some (.int .i64 (F j)) := (hT.bel.cell (by rw [block_of_add]; exact hab)).trans hc0
      have hd1 : wr.cell? ⟨(ad.add (j * 2)).block, (ad.add (j * 2)).off + 1, none⟩ = some (.int .i64 (G j)) := by
        rw [← add_one_addr, add_of_add]; exact (hT.bel.cell (by rw [block_of_add]; exact hab)).trans hc1
      clear hc0 hc1
      generalize F j = kd at *
      generalize G j = n at *
      have lP2 : P < wr.heap.size := World.block_lt_of_cell? _ _ hT.st.hp.cell
      have lQ2 : Q < wr.heap.size := World.block_lt_of_cell? _ _ hT.rp.c0
      have hPx : Px W P W.heap.size Q k wr.heap.size n v xs A' c ys (wr.alloc (.cells #[.int .i64 kd, .int .i64 n] 48)) := by
        have hI := hT.st.hI
        refine ⟨hT.below ((Below.refl _ _).alloc (Nat.le_refl _) _), World.cell?_alloc_at _ _ _ _ rfl, by omega, by omega, by omega, fun e => ?_⟩
        have := (hT.st.hp.own.lt _ e.symm).2
        omega
      generalize hB : wr.heap.size = B at *
      have hR1 := hR.srt
      have HRs := Lib.hid hR1
      clear hR1
      by_cases h1 : kd = 1
      · subst h1
        have hP0 := hPx.drew
        by_cases hn : 0 ≤ n ∧ n < k
        · obtain ⟨m, rfl⟩ := Int.eq_ofNat_of_zero_le hn.1
          have hm9 : m < k := by omega
          clear hn
          by_cases hm : (m : Int) ∈ xs
          · have HE := Lib.hid hm
            have HE2 := Lib.hid ((hR.mem _).2 hm)
            clear hm
            go_wp2
            go_region_held3 (fun w' => w'.cell? ⟨B, 1, none⟩ = some (.int .i64 m)) (first | (go_keep; done) | exact hP0.box)
              (first
                | (go_at_call 21; refine (st_put_no hP0.two.st m hm9 HE.out).mono ?_; rintro e w' ⟨rfl, rfl⟩)
                | (go_at_call 22; refine (rput_no hP0.two.rp (by rw [hP0.two.len hR]; omega) (by omega) (by omega) HRs.out HE2.out).mono ?_; rintro e w' ⟨rfl, rfl⟩))
            all_goals
              obtain ⟨v9, xs9, A9, c9, ys9, hPF, hRF, hxF⟩ : ∃ v9 xs9 A9 c9 ys9, Px W P W.heap.size Q k B m v9 xs9 A9 c9 ys9 _ ∧ Rel ys9 xs9 ∧ xs9.length ≤ j + 1 := ⟨_, _, _, _, _, hP0, hR, by omega⟩
              have hqc := hPF.two.rp.c1
              have hbx := hPF.box
              have hrd := hPF.two.rp.rd
              have hl9 := hPF.two.len hRF
              have HL9 := Lib.hid hl9
              have HRF := Lib.hid hRF
              clear hl9 hRF
              try go_wp2
              go_loop [15, 99] (fun h i => ∃ t : Nat, t ≤ ys9.length ∧ i = .int .i64 t ∧ h = .bool (memB (m : Int) (ys9.take t))) (fun _ i => ys9.length - (intOf i).toNat)
              case atStart => exact ⟨0, by omega, rfl, by rw [List.take_zero]; rfl⟩
              case round =>
                obtain ⟨t, ht, rfl, rfl⟩ := hrel
                by_cases htl : t < ys9.length
                · obtain ⟨ad9, rfl, _, hce⟩ := ints_get hrd htl
                  have ht1 : (t : Int) < ys9.length := by omega
                  have ht0 : (0 : Int) ≤ t := by omega
                  have HT9 := Lib.hid htl
                  have ht2 : (t : Int) < 200 := (by have h8 := HL9.out; omega)
                  have HN := Lib.hid (memB_next (m : Int) ys9 t htl)
                  generalize ys9[t]?.getD 0 = e9 at *
                  cases hb : memB (m : Int) (ys9.take t) with
                  | true =>
                    go_wp2
                    go_round
                    case rel => exact ⟨t + 1, (by have h9 := HT9.out; omega), by go_num, by rw [HN.out, hb]; rfl⟩
                    case measure => have h9 := HT9.out; simp only [intOf]; omega
                  | false =>
                    by_cases he : e9 = (m : Int)
                    · have he1 : (e9 == (m : Int)) = true := by simp [he]
                      have HE9 := Lib.hid he1
                      clear he
                      go_wp2
                      go_round
                      case rel => exact ⟨t + 1, (by have h9 := HT9.out; omega), by go_num, by rw [HN.out, hb, HE9.out]; rfl⟩
                      case measure => have h9 := HT9.out; simp only [intOf]; omega
                    · have he1 : (e9 == (m : Int)) = false := by simp [he]
                      have HE9 := Lib.hid he1
                      clear he
                      go_wp2
                      go_round
                      case rel => exact ⟨t + 1, (by have h9 := HT9.out; omega), by go_num, by rw [HN.out, hb, HE9.out]; rfl⟩
                      case measure => have h9 := HT9.out; simp only [intOf]; omega
                · obtain rfl : t = ys9.length := by omega
                  have hmb : memB (m : Int) (ys9.take ys9.length) = memB (m : Int) xs9 := by
                    rw [List.take_length]; unfold memB; exact decide_eq_decide.2 (HRF.out.mem (m : Int))
                  rw [hmb]
                  clear hmb
                  have HAS := fun w0 (h : Px W P W.heap.size Q k B (m : Int) v9 xs9 A9 c9 ys9 w0) => has_memB h.two.st (m : Int)
                  have hb9 : memB (m : Int) xs9 = true ∨ memB (m : Int) xs9 = false := by cases memB (m : Int) xs9 <;> simp
                  generalize memB (m : Int) xs9 = b9 at *
                  have HH := Lib.hid HAS
                  clear HAS
                  rcases hb9 with rfl | rfl
                  all_goals
                    go_wp2
                    go_region_held3 (fun w' => w'.cell? ⟨B, 1, none⟩ = some (.int .i64 (m : Int)) ∧ w'.cell? ⟨Q, 1, none⟩ = some (.slice A9 ys9.length c9)) (go_keep)
                      (first
                        | (go_at_call 25; refine (HH.out _ hPF.drew).mono ?_; rintro e w' ⟨rfl, rfl⟩)
                        | (go_at_call 26; refine (st_len (w := _) hPF.drew.two.st).mono ?_; rintro e w' ⟨rfl, rfl⟩; rw [← HL9.out]))
                    all_goals
                      go_wp2
                      go_roundw
                      case rel => exact ⟨j + 1, v9, xs9, A9, c9, ys9, by go_num, by omega, hxF, HRF.out, hPF.drew.two⟩
                      case measure => simp only [intOf]; omega
          · have HE := Lib.hid hm
            have HE2 : Hid (¬ (m : Int) ∈ ys) := Lib.hid (fun h => HE.out ((hR.mem _).1 h))
            clear hm
            have T1 : Hid True := trivial
            go_wp2
            go_region_held3 (fun w' => w'.cell? ⟨B, 1, none⟩ = some (.int .i64 m)) (first | (go_keep; done) | exact hP2.box | exact hP1.box | exact hP0.box)
              (first
                | (go_at_call 21; clear T1; refine (st_put_yes hP0.two.st m hm9 HE.out (by omega)).mono ?_; rintro e w3 ⟨rfl, v', hS', hK⟩; have hP1 := hP0.afterPool hS' hK)
                | (go_at_call 22; clear T1; refine (rput_in Q k m _ _ ys _ hP0.two.rp (by rw [hP0.two.len hR]; omega) (by omega) (by omega) HE2.out).mono ?_; rintro e w3 ⟨rfl, hpo⟩; obtain ⟨A2, c2, ys2, hP1, hs2, hm2⟩ := hP0.putRef HRs.out hpo; have T2 : Hid True := trivial)
                | (go_at_call 22; refine (rput_in Q k m _ _ ys _ hP1.two.rp (by rw [hP0.two.len hR]; omega) (by omega) (by omega) HE2.out).mono ?_; rintro e w4 ⟨rfl, hpo⟩; obtain ⟨A2, c2, ys2, hP2, hs2, hm2⟩ := hP1.putRef HRs.out hpo)
                | (go_at_call 21; clear T2; refine (st_put_yes hP1.two.st m hm9 HE.out (by omega)).mono ?_; rintro e w4 ⟨rfl, v', hS', hK⟩; have hP2 := hP1.afterPool hS' hK))
            all_goals
              obtain ⟨v9, xs9, A9, c9, ys9, hPF, hRF, hxF⟩ : ∃ v9 xs9 A9 c9 ys9, Px W P W.heap.size Q k B m v9 xs9 A9 c9 ys9 _ ∧ Rel ys9 xs9 ∧ xs9.length ≤ j + 1 := ⟨_, _, _, _, _, hP2, hR.put hs2 hm2, by rw [pushF_len]; omega⟩
              have hqc := hPF.two.rp.c1
              clear hm2 hs2
              have hbx := hPF.box
              have hrd := hPF.two.rp.rd
              have hl9 := hPF.two.len hRF
              have HL9 := Lib.hid hl9
              have HRF := Lib.hid hRF
              clear hl9 hRF
              try go_wp2
              go_loop [15, 99] (fun h i => ∃ t : Nat, t ≤ ys9.length ∧ i = .int .i64 t ∧ h = .bool (memB (m : Int) (ys9.take t))) (fun _ i => ys9.length - (intOf i).toNat)
              case atStart => exact ⟨0, by omega, rfl, by rw [List.take_zero]; rfl⟩
              case round =>
                obtain ⟨t, ht, rfl, rfl⟩ := hrel
                by_cases htl : t < ys9.length
                · obtain ⟨ad9, rfl, _, hce⟩ := ints_get hrd htl
                  have ht1 : (t : Int) < ys9.length := by omega
                  have ht0 : (0 : Int) ≤ t := by omega
                  have HT9 := Lib.hid htl
                  have ht2 : (t : Int) < 200 := (by have h8 := HL9.out; omega)
                  have HN := Lib.hid (memB_next (m : Int) ys9 t htl)
                  generalize ys9[t]?.getD 0 = e9 at *
                  cases hb : memB (m : Int) (ys9.take t) with
                  | true =>
                    go_wp2
                    go_round
                    case rel => exact ⟨t + 1, (by have h9 := HT9.out; omega), by go_num, by rw [HN.out, hb]; rfl⟩
                    case measure => have h9 := HT9.out; simp only [intOf]; omega
                  | false =>
                    by_cases he : e9 = (m : Int)
                    · have he1 : (e9 == (m : Int)) = true := by simp [he]
                      have HE9 := Lib.hid he1
                      clear he
                      go_wp2
                      go_round
                      case rel => exact ⟨t + 1, (by have h9 := HT9.out; omega), by go_num, by rw [HN.out, hb, HE9.out]; rfl⟩
                      case measure => have h9 := HT9.out; simp only [intOf]; omega
                    · have he1 : (e9 == (m : Int)) = false := by simp [he]
                      have HE9 := Lib.hid he1
                      clear he
                      go_wp2
                      go_round
                      case rel => exact ⟨t + 1, (by have h9 := HT9.out; omega), by go_num, by rw [HN.out, hb, HE9.out]; rfl⟩
                      case measure => have h9 := HT9.out; simp only [intOf]; omega
                · obtain rfl : t = ys9.length := by omega
                  have hmb : memB (m : Int) (ys9.take ys9.length) = memB (m : Int) xs9 := by
                    rw [List.take_length]; unfold memB; exact decide_eq_decide.2 (HRF.out.mem (m : Int))
                  rw [hmb]
                  clear hmb
                  have HAS := fun w0 (h : Px W P W.heap.size Q k B (m : Int) v9 xs9 A9 c9 ys9 w0) => has_memB h.two.st (m : Int)
                  have hb9 : memB (m : Int) xs9 = true ∨ memB (m : Int) xs9 = false := by cases memB (m : Int) xs9 <;> simp
                  generalize memB (m : Int) xs9 = b9 at *
                  have HH := Lib.hid HAS
                  clear HAS
                  rcases hb9 with rfl | rfl
                  all_goals
                    go_wp2
                    go_region_held3 (fun w' => w'.cell? ⟨B, 1, none⟩ = some (.int .i64 (m : Int)) ∧ w'.cell? ⟨Q, 1, none⟩ = some (.slice A9 ys9.length c9)) (go_keep)
                      (first
                        | (go_at_call 25; refine (HH.out _ hPF.drew).mono ?_; rintro e w' ⟨rfl, rfl⟩)
                        | (go_at_call 26; refine (st_len (w := _) hPF.drew.two.st).mono ?_; rintro e w' ⟨rfl, rfl⟩; rw [← HL9.out]))
                    all_goals
                      go_wp2
                      go_roundw
                      case rel => exact ⟨j + 1, v9, xs9, A9, c9, ys9, by go_num, by omega, hxF, HRF.out, hPF.drew.two⟩
                      case measure => simp only [intOf]; omega
        · have HN : Hid (n < 0 ∨ (k : Int) ≤ n) := Lib.hid (by omega)
          clear hn
          go_wp2
          go_region_held3 (fun w' => w'.cell? ⟨B, 1, none⟩ = some (.int .i64 n)) (first | (go_keep; done) | exact hP0.box)
            (first
              | (go_at_call 21; refine (st_put_out hP0.two.st n HN.out).mono ?_; rintro e w' ⟨rfl, rfl⟩)
              | (go_at_call 22; refine (rput_out hP0.two.rp HN.out).mono ?_; rintro e w' ⟨rfl, rfl⟩))
          all_goals
            obtain ⟨v9, xs9, A9, c9, ys9, hPF, hRF, hxF⟩ : ∃ v9 xs9 A9 c9 ys9, Px W P W.heap.size Q k B n v9 xs9 A9 c9 ys9 _ ∧ Rel ys9 xs9 ∧ xs9.length ≤ j + 1 := ⟨_, _, _, _, _, hP0, hR, by omega⟩
            have hqc := hPF.two.rp.c1
            have hbx := hPF.box
            have hrd := hPF.two.rp.rd
            have hl9 := hPF.two.len hRF
            have HL9 := Lib.hid hl9
            have HRF := Lib.hid hRF
            clear hl9 hRF
            try go_wp2
            go_loop [15, 99] (fun h i => ∃ t : Nat, t ≤ ys9.length ∧ i = .int .i64 t ∧ h = .bool (memB n (ys9.take t))) (fun _ i => ys9.length - (intOf i).toNat)
            case atStart => exact ⟨0, by omega, rfl, by rw [List.take_zero]; rfl⟩
            case round =>
              obtain ⟨t, ht, rfl, rfl⟩ := hrel
              by_cases htl : t < ys9.length
              · obtain ⟨ad9, rfl, _, hce⟩ := ints_get hrd htl
                have ht1 : (t : Int) < ys9.length := by omega
                have ht0 : (0 : Int) ≤ t := by omega
                have HT9 := Lib.hid htl
                have ht2 : (t : Int) < 200 := (by have h8 := HL9.out; omega)
                have HN := Lib.hid (memB_next n ys9 t htl)
                generalize ys9[t]?.getD 0 = e9 at *
                cases hb : memB n (ys9.take t) with
                | true =>
                  go_wp2
                  go_round
                  case rel => exact ⟨t + 1, (by have h9 := HT9.out; omega), by go_num, by rw [HN.out, hb]; rfl⟩
                  case measure => have h9 := HT9.out; simp only [intOf]; omega
                | false =>
                  by_cases he : e9 = n
                  · have he1 : (e9 == n) = true := by simp [he]
                    have HE9 := Lib.hid he1
                    clear he
                    go_wp2
                    go_round
                    case rel => exact ⟨t + 1, (by have h9 := HT9.out; omega), by go_num, by rw [HN.out, hb, HE9.out]; rfl⟩
                    case measure => have h9 := HT9.out; simp only [intOf]; omega
                  · have he1 : (e9 == n) = false := by simp [he]
                    have HE9 := Lib.hid he1
                    clear he
                    go_wp2
                    go_round
                    case rel => exact ⟨t + 1, (by have h9 := HT9.out; omega), by go_num, by rw [HN.out, hb, HE9.out]; rfl⟩
                    case measure => have h9 := HT9.out; simp only [intOf]; omega
              · obtain rfl : t = ys9.length := by omega
                have hmb : memB n (ys9.take ys9.length) = memB n xs9 := by
                  rw [List.take_length]; unfold memB; exact decide_eq_decide.2 (HRF.out.mem n)
                rw [hmb]
                clear hmb
                have HAS := fun w0 (h : Px W P W.heap.size Q k B n v9 xs9 A9 c9 ys9 w0) => has_memB h.two.st n
                have hb9 : memB n xs9 = true ∨ memB n xs9 = false := by cases memB n xs9 <;> simp
                generalize memB n xs9 = b9 at *
                have HH := Lib.hid HAS
                clear HAS
                rcases hb9 with rfl | rfl
                all_goals
                  go_wp2
                  go_region_held3 (fun w' => w'.cell? ⟨B, 1, none⟩ = some (.int .i64 n) ∧ w'.cell? ⟨Q, 1, none⟩ = some (.slice A9 ys9.length c9)) (go_keep)
                    (first
                      | (go_at_call 25; refine (HH.out _ hPF.drew).mono ?_; rintro e w' ⟨rfl, rfl⟩)
                      | (go_at_call 26; refine (st_len (w := _) hPF.drew.two.st).mono ?_; rintro e w' ⟨rfl, rfl⟩; rw [← HL9.out]))
                  all_goals
                    go_wp2
                    go_roundw
                    case rel => exact ⟨j + 1, v9, xs9, A9, c9, ys9, by go_num, by omega, hxF, HRF.out, hPF.drew.two⟩
                    case measure => simp only [intOf]; omega
      · have h1' : (kd == 1) = false := by simp [h1]
        clear h1
        by_cases h2 : kd = 2
        · subst h2
          by_cases hx0 : xs = []
          · subst hx0
            obtain rfl := hR.nil
            have HS0 := Lib.hid hPx
            obtain ⟨v9, xs9, A9, c9, ys9, hPF, hRF, hxF⟩ : ∃ v9 xs9 A9 c9 ys9, Px W P W.heap.size Q k B n v9 xs9 A9 c9 ys9 (wr.alloc (.cells #[.int .i64 2, .int .i64 n] 48)) ∧ Rel ys9 xs9 ∧ xs9.length ≤ j + 1 := ⟨_, _, _, _, _, hPx, hR, by simp⟩
            have hqc := hPF.two.rp.c1
            go_wp2_with (first
              | (go_at_call 23; refine (st_take_no hPx.two.st).mono ?_; rintro e w3 ⟨rfl, rfl⟩)
              | (go_at_call 24; refine (rtake_no Q 0 k _ _ _ hPx.two.rp).mono ?_; rintro e w4 ⟨rfl, rfl⟩)
              | fail)
            have hbx := hPF.box
            have hrd := hPF.two.rp.rd
            have hl9 := hPF.two.len hRF
            have HL9 := Lib.hid hl9
            have HRF := Lib.hid hRF
            clear hl9 hRF
            try go_wp2
            go_loop [15, 99] (fun h i => ∃ t : Nat, t ≤ ys9.length ∧ i = .int .i64 t ∧ h = .bool (memB n (ys9.take t))) (fun _ i => ys9.length - (intOf i).toNat)
            case atStart => exact ⟨0, by omega, rfl, by rw [List.take_zero]; rfl⟩
            case round =>
              obtain ⟨t, ht, rfl, rfl⟩ := hrel
              by_cases htl : t < ys9.length
              · obtain ⟨ad9, rfl, _, hce⟩ := ints_get hrd htl
                have ht1 : (t : Int) < ys9.length := by omega
                have ht0 : (0 : Int) ≤ t := by omega
                have HT9 := Lib.hid htl
                have ht2 : (t : Int) < 200 := (by have h8 := HL9.out; omega)
                have HN := Lib.hid (memB_next n ys9 t htl)
                generalize ys9[t]?.getD 0 = e9 at *
                cases hb : memB n (ys9.take t) with
                | true =>
                  go_wp2
                  go_round
                  case rel => exact ⟨t + 1, (by have h9 := HT9.out; omega), by go_num, by rw [HN.out, hb]; rfl⟩
                  case measure => have h9 := HT9.out; simp only [intOf]; omega
                | false =>
                  by_cases he : e9 = n
                  · have he1 : (e9 == n) = true := by simp [he]
                    have HE9 := Lib.hid he1
                    clear he
                    go_wp2
                    go_round
                    case rel => exact ⟨t + 1, (by have h9 := HT9.out; omega), by go_num, by rw [HN.out, hb, HE9.out]; rfl⟩
                    case measure => have h9 := HT9.out; simp only [intOf]; omega
                  · have he1 : (e9 == n) = false := by simp [he]
                    have HE9 := Lib.hid he1
                    clear he
                    go_wp2
                    go_round
                    case rel => exact ⟨t + 1, (by have h9 := HT9.out; omega), by go_num, by rw [HN.out, hb, HE9.out]; rfl⟩
                    case measure => have h9 := HT9.out; simp only [intOf]; omega
              · obtain rfl : t = ys9.length := by omega
                have hmb : memB n (ys9.take ys9.length) = memB n xs9 := by
                  rw [List.take_length]; unfold memB; exact decide_eq_decide.2 (HRF.out.mem n)
                rw [hmb]
                clear hmb
                have HAS := fun w0 (h : Px W P W.heap.size Q k B n v9 xs9 A9 c9 ys9 w0) => has_memB h.two.st n
                have hb9 : memB n xs9 = true ∨ memB n xs9 = false := by cases memB n xs9 <;> simp
                generalize memB n xs9 = b9 at *
                have HH := Lib.hid HAS
                clear HAS
                rcases hb9 with rfl | rfl
                all_goals
                  go_wp2
                  go_region_held3 (fun w' => w'.cell? ⟨B, 1, none⟩ = some (.int .i64 n) ∧ w'.cell? ⟨Q, 1, none⟩ = some (.slice A9 ys9.length c9)) (go_keep)
                    (first
                      | (go_at_call 25; refine (HH.out _ hPF.drew).mono ?_; rintro e w' ⟨rfl, rfl⟩)
                      | (go_at_call 26; refine (st_len (w := _) hPF.drew.two.st).mono ?_; rintro e w' ⟨rfl, rfl⟩; rw [← HL9.out]))
                  all_goals
                    go_wp2
                    go_roundw
                    case rel => exact ⟨j + 1, v9, xs9, A9, c9, ys9, by go_num, by omega, hxF, HRF.out, hPF.drew.two⟩
                    case measure => simp only [intOf]; omega
          · have hlen := List.length_pos_iff.2 hx0
            have hp0 := getD_mem xs hlen
            have hr := hT.st.rng _ hp0
            obtain ⟨ys', rfl, hR2⟩ := hR.cons hx0 hT.st.heap hT.st.nodup
            obtain ⟨m, hm⟩ := Int.eq_ofNat_of_zero_le hr.1
            have hpl := popF_len xs hx0
            have hcm := hPx.two.cm
            have hyl := hPx.two.len hR
            simp only [List.length_cons] at hyl
            have HX := Lib.hid hx0
            have HM := Lib.hid hm
            have HP := Lib.hid hpl
            have HY := Lib.hid hyl
            rw [hm] at hPx
            clear hx0 hp0 hr hm hpl hyl
            go_wp2_with (first
              | (go_at_call 23; refine (st_take hPx.two.st HX.out (by omega) m HM.out).mono ?_; rintro e w3 ⟨rfl, v', hS', hK⟩; have hP1 := hPx.afterPool hS' hK)
              | (go_at_call 24; refine (rtake_yes Q 0 k m _ _ _ _ hP1.two.rp (by have := HY.out; omega) hcm).mono ?_; rintro e w4 ⟨rfl, hr4, hk4⟩; have hP2 := hP1.takeRef hr4 hk4; obtain ⟨v9, xs9, A9, c9, ys9, hPF, hRF, hxF⟩ : ∃ v9 xs9 A9 c9 ys9, Px W P W.heap.size Q k B n v9 xs9 A9 c9 ys9 w4 ∧ Rel ys9 xs9 ∧ xs9.length ≤ j + 1 := ⟨_, _, _, _, _, hP2, hR2, by rw [HP.out]; omega⟩; have hqc := hPF.two.rp.c1)
              | fail)
            have hbx := hPF.box
            have hrd := hPF.two.rp.rd
            have hl9 := hPF.two.len hRF
            have HL9 := Lib.hid hl9
            have HRF := Lib.hid hRF
            clear hl9 hRF
            try go_wp2
            go_loop [15, 99] (fun h i => ∃ t : Nat, t ≤ ys9.length ∧ i = .int .i64 t ∧ h = .bool (memB n (ys9.take t))) (fun _ i => ys9.length - (intOf i).toNat)
            case atStart => exact ⟨0, by omega, rfl, by rw [List.take_zero]; rfl⟩
            case round =>
              obtain ⟨t, ht, rfl, rfl⟩ := hrel
              by_cases htl : t < ys9.length
              · obtain ⟨ad9, rfl, _, hce⟩ := ints_get hrd htl
                have ht1 : (t : Int) < ys9.length := by omega
                have ht0 : (0 : Int) ≤ t := by omega
                have HT9 := Lib.hid htl
                have ht2 : (t : Int) < 200 := (by have h8 := HL9.out; omega)
                have HN := Lib.hid (memB_next n ys9 t htl)
                generalize ys9[t]?.getD 0 = e9 at *
                cases hb : memB n (ys9.take t) with
                | true =>
                  go_wp2
                  go_round
                  case rel => exact ⟨t + 1, (by have h9 := HT9.out; omega), by go_num, by rw [HN.out, hb]; rfl⟩
                  case measure => have h9 := HT9.out; simp only [intOf]; omega
                | false =>
                  by_cases he : e9 = n
                  · have he1 : (e9 == n) = true := by simp [he]
                    have HE9 := Lib.hid he1
                    clear he
                    go_wp2
                    go_round
                    case rel => exact ⟨t + 1, (by have h9 := HT9.out; omega), by go_num, by rw [HN.out, hb, HE9.out]; rfl⟩
                    case measure => have h9 := HT9.out; simp only [intOf]; omega
                  · have he1 : (e9 == n) = false := by simp [he]
                    have HE9 := Lib.hid he1
                    clear he
                    go_wp2
                    go_round
                    case rel => exact ⟨t + 1, (by have h9 := HT9.out; omega), by go_num, by rw [HN.out, hb, HE9.out]; rfl⟩
                    case measure => have h9 := HT9.out; simp only [intOf]; omega
              · obtain rfl : t = ys9.length := by omega
                have hmb : memB n (ys9.take ys9.length) = memB n xs9 := by
                  rw [List.take_length]; unfold memB; exact decide_eq_decide.2 (HRF.out.mem n)
                rw [hmb]
                clear hmb
                have HAS := fun w0 (h : Px W P W.heap.size Q k B n v9 xs9 A9 c9 ys9 w0) => has_memB h.two.st n
                have hb9 : memB n xs9 = true ∨ memB n xs9 = false := by cases memB n xs9 <;> simp
                generalize memB n xs9 = b9 at *
                have HH := Lib.hid HAS
                clear HAS
                rcases hb9 with rfl | rfl
                all_goals
                  go_wp2
                  go_region_held3 (fun w' => w'.cell? ⟨B, 1, none⟩ = some (.int .i64 n) ∧ w'.cell? ⟨Q, 1, none⟩ = some (.slice A9 ys9.length c9)) (go_keep)
                    (first
                      | (go_at_call 25; refine (HH.out _ hPF.drew).mono ?_; rintro e w' ⟨rfl, rfl⟩)
                      | (go_at_call 26; refine (st_len (w := _) hPF.drew.two.st).mono ?_; rintro e w' ⟨rfl, rfl⟩; rw [← HL9.out]))
                  all_goals
                    go_wp2
                    go_roundw
                    case rel => exact ⟨j + 1, v9, xs9, A9, c9, ys9, by go_num, by omega, hxF, HRF.out, hPF.drew.two⟩
                    case measure => simp only [intOf]; omega
        · have h2' : (kd == 2) = false := by simp [h2]
          clear h2
          obtain ⟨v9, xs9, A9, c9, ys9, hPF, hRF, hxF⟩ : ∃ v9 xs9 A9 c9 ys9, Px W P W.heap.size Q k B n v9 xs9 A9 c9 ys9 (wr.alloc (.cells #[.int .i64 kd, .int .i64 n] 48)) ∧ Rel ys9 xs9 ∧ xs9.length ≤ j + 1 := ⟨_, _, _, _, _, hPx, hR, by omega⟩
          have hqc := hPF.two.rp.c1
          go_wp2
          have hbx := hPF.box
          have hrd := hPF.two.rp.rd
          have hl9 := hPF.two.len hRF
          have HL9 := Lib.hid hl9
          have HRF := Lib.hid hRF
          clear hl9 hRF
          try go_wp2
          go_loop [15, 99] (fun h i => ∃ t : Nat, t ≤ ys9.length ∧ i = .int .i64 t ∧ h = .bool (memB n (ys9.take t))) (fun _ i => ys9.length - (intOf i).toNat)
          case atStart => exact ⟨0, by omega, rfl, by rw [List.take_zero]; rfl⟩
          case round =>
            obtain ⟨t, ht, rfl, rfl⟩ := hrel
            by_cases htl : t < ys9.length
            · obtain ⟨ad9, rfl, _, hce⟩ := ints_get hrd htl
              have ht1 : (t : Int) < ys9.length := by omega
              have ht0 : (0 : Int) ≤ t := by omega
              have HT9 := Lib.hid htl
              have ht2 : (t : Int) < 200 := (by have h8 := HL9.out; omega)
              have HN := Lib.hid (memB_next n ys9 t htl)
              generalize ys9[t]?.getD 0 = e9 at *
              cases hb : memB n (ys9.take t) with
              | true =>
                go_wp2
                go_round
                case rel => exact ⟨t + 1, (by have h9 := HT9.out; omega), by go_num, by rw [HN.out, hb]; rfl⟩
                case measure => have h9 := HT9.out; simp only [intOf]; omega
              | false =>
                by_cases he : e9 = n
                · have he1 : (e9 == n) = true := by simp [he]
                  have HE9 := Lib.hid he1
                  clear he
                  go_wp2
                  go_round
                  case rel => exact ⟨t + 1, (by have h9 := HT9.out; omega), by go_num, by rw [HN.out, hb, HE9.out]; rfl⟩
                  case measure => have h9 := HT9.out; simp only [intOf]; omega
                · have he1 : (e9 == n) = false := by simp [he]
                  have HE9 := Lib.hid he1
                  clear he
                  go_wp2
                  go_round
                  case rel => exact ⟨t + 1, (by have h9 := HT9.out; omega), by go_num, by rw [HN.out, hb, HE9.out]; rfl⟩
                  case measure => have h9 := HT9.out; simp only [intOf]; omega
            · obtain rfl : t = ys9.length := by omega
              have hmb : memB n (ys9.take ys9.length) = memB n xs9 := by
                rw [List.take_length]; unfold memB; exact decide_eq_decide.2 (HRF.out.mem n)
              rw [hmb]
              clear hmb
              have HAS := fun w0 (h : Px W P W.heap.size Q k B n v9 xs9 A9 c9 ys9 w0) => has_memB h.two.st n
              have hb9 : memB n xs9 = true ∨ memB n xs9 = false := by cases memB n xs9 <;> simp
              generalize memB n xs9 = b9 at *
              have HH := Lib.hid HAS
              clear HAS
              rcases hb9 with rfl | rfl
              all_goals
                go_wp2
                go_region_held3 (fun w' => w'.cell? ⟨B, 1, none⟩ = some (.int .i64 n) ∧ w'.cell? ⟨Q, 1, none⟩ = some (.slice A9 ys9.length c9)) (go_keep)
                  (first
                    | (go_at_call 25; refine (HH.out _ hPF.drew).mono ?_; rintro e w' ⟨rfl, rfl⟩)
                    | (go_at_call 26; refine (st_len (w := _) hPF.drew.two.st).mono ?_; rintro e w' ⟨rfl, rfl⟩; rw [← HL9.out]))
                all_goals
                  go_wp2
                  go_roundw
                  case rel => exact ⟨j + 1, v9, xs9, A9, c9, ys9, by go_num, by omega, hxF, HRF.out, hPF.drew.two⟩
                  case measure => simp only [intOf]; omega
    · have HI := Lib.hid hin
      clear hin
      go_wp2_with (first
        | (go_at_call 20; refine (poolRuns_any _).mono ?_; rintro e w9 ⟨rfl, hb9⟩)
        | fail)
      all_goals first
        | (exfalso; have := HI.out; omega)
        | (go_ret; exact ⟨rfl, hT.bel.trans (hb9.mono hT.bel.size)⟩)
theorem plays_any (a : Int) (A : Option Addr) (len cap : Nat) (F G : Nat → Int) (W : World) (hx : Pairs W A len F G) :
    Calls Try.prog 6 #[.int .i64 a, .slice A len cap] W fun e w' => e = .returned (.bool true) ∧ Below W.heap.size W w' := by
  by_cases ha : a < 0 ∨ 65535 < a
  · exact plays_bad a A len cap W ha
  · obtain ⟨k, rfl⟩ := Int.eq_ofNat_of_zero_le (by omega : 0 ≤ a)
    exact plays_ok k (by omega) A len cap F G W hx
end Go.Proofs.Ytdkokpaboipamaa
