/-
  The document's own pool and the pool side by side; conditions: sizes.
-/
import Derived.Test.YtdkokpaboipamaaPn2
import Derived.Test.YtdkokpaboipamaaPm4
namespace Go.Proofs.Ytdkokpaboipamaa
open Go.RowKit Go.WideShapes Go.ChangeShapes
set_option linter.all false
section
variable {Q c : Nat} {most n : Int} {A : Option Addr} {ys : List Int} {w w' : World}
set_option maxRecDepth 100000 in
set_option maxHeartbeats 400000 in
theorem rput_out (h : RefP Q 0 most A c ys w) (hn : n < 0 ∨ most ≤ n) : Calls Try.prog 22 #[.pointer (some ⟨Q, 0, none⟩), .int .i64 n] w fun e w' => e = .returned (.bool false) ∧ w' = w := by
  have h0 := h.c0
  have H : Hid (n < 0 ∨ most ≤ n) := hn
  clear h hn
  go_enter Try.func22, Try.ntmps22
  go_wp2
  all_goals first
    | (exfalso; have := H.out; omega)
    | (go_ret; exact ⟨rfl, rfl⟩)
theorem sorted_le {ys : List Int} (h : ys.Pairwise (· < ·)) {i p : Nat} (hip : i ≤ p) (hp : p < ys.length) : ys.getD i 0 ≤ ys.getD p 0 := by
  have e1 : ys.getD i 0 = ys[i]'(by omega) := by rw [List.getD_eq_getElem?_getD, List.getElem?_eq_getElem (by omega)]; rfl
  have e2 : ys.getD p 0 = ys[p] := by rw [List.getD_eq_getElem?_getD, List.getElem?_eq_getElem hp]; rfl
  rw [e1, e2]
  rcases Nat.lt_or_ge i p with h' | h'
  · exact Int.le_of_lt (List.pairwise_iff_getElem.1 h i p (by omega) hp h')
  · obtain rfl : i = p := by omega
    exact Int.le_refl _
set_option maxRecDepth 100000 in
set_option maxHeartbeats 800000 in
theorem rput_no (h : RefP Q 0 most A c ys w) (hlen : ys.length < 900000) (h0 : 0 ≤ n) (h9 : n < most) (hs : ys.Pairwise (· < ·)) (hm : n ∈ ys) :
    Calls Try.prog 22 #[.pointer (some ⟨Q, 0, none⟩), .int .i64 n] w fun e w' => e = .returned (.bool false) ∧ w' = w := by
  have hc0 := h.c0
  have h1 := h.c1
  have hcap := h.cap
  have hrd := h.rd
  have hn1 : ¬ n < 0 := by omega
  have hn2 : ¬ (n ≥ most) := by omega
  obtain ⟨p, hp, hpn⟩ := List.mem_iff_getElem.1 hm
  have hpn' : ys.getD p 0 = n := by rw [List.getD_eq_getElem?_getD, List.getElem?_eq_getElem hp]; exact hpn
  have HS := Lib.hid hs
  have HP := Lib.hid hpn'
  clear hpn hpn' hm
  generalize hL : ys.length = L at *
  have HL := Lib.hid hL
  clear hL h hs
  go_enter Try.func22, Try.ntmps22
  go_wp2
  go_loop [5] (fun j => ∃ i : Nat, i ≤ L ∧ j = .int .i64 i ∧ Hid (∀ m, m < i → ys.getD m 0 < n)) (fun j => L - (intOf j).toNat)
  case atStart => exact ⟨0, by omega, rfl, Lib.hid (by omega)⟩
  case round =>
    obtain ⟨i, hi, rfl, HI⟩ := hrel
    have hip : i ≤ p := by
      rcases Nat.lt_or_ge p i with h | h
      · have := HI.out p h; rw [HP.out] at this; omega
      · exact h
    have hlt : i < L := by omega
    obtain ⟨ad, u, rfl, hb, hu, hc⟩ := hrd.at_ hlt
    rw [ints_at ys i (by rw [HL.out]; exact hlt)] at hu
    injection hu with hu
    rw [← hu] at hc
    clear hu
    have hle := sorted_le HS.out hip (by rw [HL.out]; exact hp)
    rw [HP.out] at hle
    generalize hy : ys.getD i 0 = y at *
    have HY := Lib.hid hy
    clear hy
    by_cases hyn : y < n
    · go_wp2
      go_round
      case rel => exact ⟨i + 1, by omega, by go_num, Lib.hid (below_next HI.out (by rw [HY.out]; exact hyn))⟩
      case measure => simp only [intOf]; omega
    · obtain rfl : y = n := by omega
      go_wp2
      go_ret
      exact ⟨rfl, rfl⟩
end
/-- What a Put made of the document's pool. -/
theorem PutOk.refp {Q c : Nat} {most n : Int} {A : Option Addr} {ys : List Int} {w w' : World} (h : RefP Q 0 most A c ys w) (hp : PutOk Q w n ys w') :
    ∃ i A' c', i ≤ ys.length ∧ (∀ m, m < i → ys.getD m 0 < n) ∧ (i < ys.length → n < ys.getD i 0) ∧ RefP Q 0 most A' c' (insF ys n i) w' ∧ KeptR Q w w' ∧ c' ≤ maxLen ∧ (∀ ad, A' = some ad → w.heap.size ≤ ad.block) := by
  obtain ⟨i, w5, A5, c5, hi, hb, ha, hbel, hcq, hm, rfl⟩ := hp
  have lQ := World.block_lt_of_cell? _ _ h.c0
  have lQ' : Q < w.heap.size := lQ
  have hl : (insF ys n i).length = ys.length + 1 := by unfold insF; simp; omega
  have hfar : ∀ ad, A5 = some ad → w.heap.size ≤ ad.block := fun ad e => by subst e; exact (hm.lt _ rfl).1
  have hcap : ys.length + 1 ≤ c5 ∧ c5 ≤ maxLen := by
    rcases hm.2 with ⟨h', h0⟩ | ⟨g, off, cap, cur, h', _, _, a, b, _⟩
    · omega
    · simp only [Value.slice.injEq, true_and] at h'
      obtain ⟨_, rfl⟩ := h'
      exact ⟨a, b⟩
  refine ⟨i, A5, c5, hi, hb, ha, ⟨?_, ?_, ?_, ?_, ?_, ?_⟩, ⟨hbel.os, hbel.tape, hbel.output, by simpa using hbel.size, fun b hbl hbq => (Below.heap_setCell _ _ _ _ hbq).trans (hbel.block b hbl)⟩, hcap.2, hfar⟩
  · exact (World.cell?_setCell_other _ _ _ _ (by simp)).trans ((hbel.cell (p := ⟨Q, 0, none⟩) lQ').trans h.c0)
  · rw [hl]; exact World.cell?_setCell_same _ _ _ (hcq.trans h.c1)
  · rw [World.frozen?_setCell]; exact (hbel.frozen (p := ⟨Q, 1, none⟩) lQ').trans h.f1
  · rw [hl]
    refine ⟨by rw [ints_len, hl]; omega, fun hn => ?_⟩
    rcases hm.2 with ⟨h', h0⟩ | ⟨g, off, cap, cur, h', hge, hh, _⟩
    · omega
    · simp only [Value.slice.injEq, true_and] at h'
      obtain ⟨rfl, rfl⟩ := h'
      have hgl := (hm.lt g rfl).2
      refine ⟨_, rfl, by simpa using hgl, fun j u hu => ?_⟩
      rw [Addr.add_lit]
      exact (World.cell?_setCell_far _ _ _ _ (by show Q ≠ g; omega)).trans (hm.cells j u hu)
  · rw [hl]; exact hcap.1
  · intro ad e; have := hfar ad e; omega
theorem insF_mem {ys : List Int} {n : Int} {i : Nat} (z : Int) : z ∈ insF ys n i ↔ z = n ∨ z ∈ ys := by
  unfold insF
  rw [List.mem_append, List.mem_append, List.mem_singleton]
  constructor
  · rintro ((h | h) | h)
    · exact .inr (List.mem_of_mem_take h)
    · exact .inl h
    · exact .inr (List.mem_of_mem_drop h)
  · rintro (h | h)
    · exact .inl (.inr h)
    · rw [← List.take_append_drop i ys, List.mem_append] at h
      rcases h with h | h
      · exact .inl (.inl h)
      · exact .inr h
theorem insF_sorted {ys : List Int} {n : Int} {i : Nat} (hs : ys.Pairwise (· < ·)) (hi : i ≤ ys.length) (hb : ∀ m, m < i → ys.getD m 0 < n) (ha : i < ys.length → n < ys.getD i 0) : (insF ys n i).Pairwise (· < ·) := by
  have h1 : ∀ z ∈ ys.take i, z < n := fun z hz => by
    obtain ⟨m, hm, rfl⟩ := List.mem_iff_getElem.1 hz
    have hm' : m < i := by simp at hm; omega
    have := hb m hm'
    rw [List.getD_eq_getElem?_getD, List.getElem?_eq_getElem (by omega)] at this
    simpa using this
  have h2 : ∀ z ∈ ys.drop i, n < z := fun z hz => by
    obtain ⟨m, hm, rfl⟩ := List.mem_iff_getElem.1 hz
    have hm' : i + m < ys.length := by simp at hm; omega
    have h3 := ha (by omega)
    have h4 := sorted_le hs (i := i) (p := i + m) (by omega) hm'
    rw [List.getD_eq_getElem?_getD (i := i + m), List.getElem?_eq_getElem hm'] at h4
    have h5 : n < ys[i + m] := by simp only [Option.getD_some] at h4; omega
    simpa using h5
  unfold insF
  rw [List.pairwise_append, List.pairwise_append]
  refine ⟨⟨hs.sublist (List.take_sublist _ _), List.pairwise_singleton _ _, fun a hxa b hxb => by rw [List.mem_singleton] at hxb; rw [hxb]; exact h1 a hxa⟩, hs.sublist (List.drop_sublist _ _), fun a hxa b hxb => ?_⟩
  rcases List.mem_append.1 hxa with h | h
  · have := h1 a h; have := h2 b hxb; omega
  · rw [List.mem_singleton] at h; rw [h]; exact h2 b hxb
end Go.Proofs.Ytdkokpaboipamaa
