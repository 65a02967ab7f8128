/-
  The heads' methods: Len, Less, Swap, Pop; conditions: the places lie in the row.
-/
import Derived.Test.YthgjpdbajmfclaaMg4
namespace Go.Proofs.Ythgjpdbajmfclaa
open Go.RowKit Go.WideShapes Go.ChangeShapes
set_option linter.all false
@[reducible] def El.v (e : El) : Value := .slice (some e.ad) e.n e.c
/-- A list that is not empty, below B. -/
def EOk (w : World) (B : Nat) (e : El) : Prop := 0 < e.n ∧ SI w B (some e.ad) e.n e.c e.l
theorem EOk.below {w w' : World} {B : Nat} {e : El} (h : EOk w B e) (hb : Below B w w') : EOk w' B e := ⟨h.1, h.2.below hb⟩
theorem EOk.first {w : World} {B : Nat} {e : El} (h : EOk w B e) : w.cell? e.ad = some (.int .i64 e.k) := by
  obtain ⟨ad, x, r, ea, hl, hc⟩ := h.2.head h.1
  injection ea with ea
  rw [ea, hc]; unfold El.k; rw [hl]; rfl
theorem EOk.cons {w : World} {B : Nat} {e : El} (h : EOk w B e) : ∃ r, e.l = e.k :: r := by
  obtain ⟨ad, x, r, ea, hl, hc⟩ := h.2.head h.1
  exact ⟨r, by unfold El.k; rw [hl]; rfl⟩
/-- The row at g holds xs, and may be written; each of xs is a list below B. -/
structure Row (g B : Nat) (xs : List El) (w : World) : Prop where
  cell : ∀ m, m < xs.length → w.cell? ⟨g, m, none⟩ = some (xs.getD m dE).v
  free : ∀ m, m < xs.length → w.frozen? ⟨g, m, none⟩ = false
  ok : ∀ m, m < xs.length → EOk w B (xs.getD m dE)
set_option maxRecDepth 100000 in
set_option maxHeartbeats 800000 in
theorem less_any (g B n c : Nat) (xs : List El) (i j : Nat) (w : World) (hn : xs.length = n) (hi : i < n) (hj : j < n) (h : Row g B xs w) :
    Calls Try.prog 44 #[.slice (some ⟨g, 0, none⟩) n c, .int .i64 i, .int .i64 j] w fun e w' => e = .returned (.bool (decide (kk xs i < kk xs j))) ∧ w' = w.drew := by
  have ci := h.cell i (by omega)
  have cj := h.cell j (by omega)
  have oi := h.ok i (by omega)
  have oj := h.ok j (by omega)
  have fi := oi.first
  have fj := oj.first
  unfold kk
  generalize xs.getD i dE = ei at *
  generalize xs.getD j dE = ej at *
  have ni := oi.1
  have nj := oj.1
  clear oi oj h
  obtain ⟨adi, nni, cci, li⟩ := ei
  obtain ⟨adj, nnj, ccj, lj⟩ := ej
  simp only [El.v] at ci cj
  simp only at fi fj ni nj
  generalize El.k ⟨adi, nni, cci, li⟩ = ki at *
  generalize El.k ⟨adj, nnj, ccj, lj⟩ = kj at *
  have hi0 : (0 : Int) ≤ (i : Int) := by omega
  have hi1 : (i : Int) < (n : Int) := by omega
  have hj0 : (0 : Int) ≤ (j : Int) := by omega
  have hj1 : (j : Int) < (n : Int) := by omega
  go_enter Try.func44, Try.ntmps44
  go_wp2
  go_region
  all_goals
    go_wp2
    go_ret
    exact ⟨rfl, rfl⟩
set_option maxRecDepth 100000 in
set_option maxHeartbeats 800000 in
theorem swap_any (g B n c : Nat) (xs : List El) (i j : Nat) (w : World) (hn : xs.length = n) (hi : i < n) (hj : j < n) (h : Row g B xs w) :
    Calls Try.prog 45 #[.slice (some ⟨g, 0, none⟩) n c, .int .i64 i, .int .i64 j] w fun e w' => e = .returned (.tuple #[]) ∧ w' = (w.drew.setCell ⟨g, i, none⟩ (xs.getD j dE).v).setCell ⟨g, j, none⟩ (xs.getD i dE).v := by
  have ci := h.cell i (by omega)
  have cj := h.cell j (by omega)
  have fi := h.free i (by omega)
  have fj := h.free j (by omega)
  have hi0 : (0 : Int) ≤ (i : Int) := by omega
  have hi1 : (i : Int) < (n : Int) := by omega
  have hj0 : (0 : Int) ≤ (j : Int) := by omega
  have hj1 : (j : Int) < (n : Int) := by omega
  generalize xs.getD i dE = ei at *
  generalize xs.getD j dE = ej at *
  obtain ⟨adi, nni, cci, li⟩ := ei
  obtain ⟨adj, nnj, ccj, lj⟩ := ej
  simp only [El.v] at ci cj ⊢
  clear h
  obtain ⟨v, cs⟩ : ∃ v, (w.setCell ⟨g, i, none⟩ (.slice (some adj) nnj ccj)).cell? ⟨g, j, none⟩ = some v := by
    by_cases e : i = j
    · subst e; exact ⟨_, World.cell?_setCell_same _ _ _ ci⟩
    · exact ⟨_, (World.cell?_setCell_other _ _ _ _ (by simp [e])).trans cj⟩
  go_enter Try.func45, Try.ntmps45
  go_wp2
  go_region
  all_goals
    go_wp2
    go_end0
    exact ⟨rfl, rfl⟩
theorem m_pop (a : Addr) (w : World) : (method 167 40 (.pointer (some a)) "Pop").run Try.prog w = .ok (46, .pointer (some a)) w := by kernel_rfl
theorem i40l : ((Try.prog.info? 40).map fun i => (i.methods.find? (·.name == "Less")).map fun m => (m.func, m.path)) = some (some (some (44, false), #[])) := by kernel_rfl
theorem i40s : ((Try.prog.info? 40).map fun i => (i.methods.find? (·.name == "Swap")).map fun m => (m.func, m.path)) = some (some (some (45, false), #[])) := by kernel_rfl
theorem i40 : ((Try.prog.info? 40).map fun i => (i.methods.find? (·.name == "Len")).map fun m => (m.func, m.path)) = some (some (some (43, false), #[])) := by kernel_rfl
theorem load37 (a : Addr) (x : Option Addr) (n c : Nat) (w : World) (h : w.cell? a = some (.slice x n c)) : (loadVar 37 a).run Try.prog w = .ok (.slice x n c) w := by
  have hr : (Instr.loadAt 37 (.pointer (some a))).run Try.prog w = .ok (.slice x n c) w := by go_simp
  simpa [Instr.loadAt, Instr.sureAddr] using hr
theorem meth_val {P : Program} {n t e : Nat} {i : TypeInfo} {m : _} {f : FuncId} {name : String} {a : Addr} {x : Value} {w : World} (hi : P.info? t = some i) (hm : i.methods.find? (·.name == name) = some m) (hpe : m.path = #[]) (hfn : m.func = some (f, false))
    (hu : P.underlying t = some (.pointer e)) (hl : (loadVar e a).run P w = .ok x w) : (method (n + 1) t (.pointer (some a)) name).run P w = .ok (f, x) w := by
  have hp' : m.path.toList = [] := by rw [hpe]
  have hssa : ∀ nm : String, (Builtin.ssaWrapNilChk_ #[t] t #[.pointer (some a), strVal "", strVal nm]).run P w = .ok (.pointer (some a)) w := fun nm => rfl
  simp [method, run_typeInfo w hi, hm, hp', hpe, follow, hfn, receiverAt, run_underlying hu, Place.get, hssa, asAddr, hl]
theorem m_of {nm : String} {f : FuncId} (hi : ((Try.prog.info? 40).map fun i => (i.methods.find? (·.name == nm)).map fun m => (m.func, m.path)) = some (some (some (f, false), #[])))
    (a : Addr) (x : Option Addr) (n c : Nat) (w : World) (h : w.cell? a = some (.slice x n c)) : (method 167 40 (.pointer (some a)) nm).run Try.prog w = .ok (f, .slice x n c) w := by
  have hl := load37 a x n c w h
  have hu : Try.prog.underlying 40 = some (.pointer 37) := by kernel_rfl
  cases hin : Try.prog.info? 40 with
  | none => rw [hin] at hi; cases hi
  | some i =>
    rw [hin] at hi
    simp only [Option.map_some, Option.some.injEq] at hi
    cases hm : i.methods.find? (·.name == nm) with
    | none => rw [hm] at hi; cases hi
    | some m =>
      rw [hm] at hi
      simp only [Option.map_some, Option.some.injEq, Prod.mk.injEq] at hi
      exact meth_val hin hm hi.2 hi.1 hu hl
theorem m_less (a : Addr) (x : Option Addr) (n c : Nat) (w : World) (h : w.cell? a = some (.slice x n c)) : (method 167 40 (.pointer (some a)) "Less").run Try.prog w = .ok (44, .slice x n c) w := m_of i40l a x n c w h
theorem m_swap (a : Addr) (x : Option Addr) (n c : Nat) (w : World) (h : w.cell? a = some (.slice x n c)) : (method 167 40 (.pointer (some a)) "Swap").run Try.prog w = .ok (45, .slice x n c) w := m_of i40s a x n c w h
theorem m_len (a : Addr) (x : Option Addr) (n c : Nat) (w : World) (h : w.cell? a = some (.slice x n c)) : (method 167 40 (.pointer (some a)) "Len").run Try.prog w = .ok (43, .slice x n c) w := m_of i40 a x n c w h
theorem getD_set (xs : List El) (i m : Nat) (v : El) (hi : i < xs.length) : (xs.set i v).getD m dE = if i = m then v else xs.getD m dE := by
  simp only [List.getD_eq_getElem?_getD, List.getElem?_set]
  by_cases e : i = m
  · subst e; simp [hi]
  · simp [e]
theorem Row.set {g B : Nat} {xs : List El} {w : World} (h : Row g B xs w) (hg : B ≤ g) (i : Nat) (v : El) (hi : i < xs.length) (hv : EOk w B v) : Row g B (xs.set i v) (w.setCell ⟨g, i, none⟩ v.v) := by
  have hb : Below B w (w.setCell ⟨g, i, none⟩ v.v) := (Below.refl _ _).setCell hg _
  refine ⟨fun m hm => ?_, fun m hm => ?_, fun m hm => ?_⟩
  · rw [List.length_set] at hm
    rw [getD_set _ _ _ _ hi]
    by_cases e : i = m
    · subst e
      rw [World.cell?_setCell_same _ _ _ (h.cell i hi), if_pos rfl]
    · rw [World.cell?_setCell_other _ _ _ _ (by simp [e]), h.cell m hm, if_neg e]
  · rw [List.length_set] at hm
    rw [World.frozen?_setCell]; exact h.free m hm
  · rw [List.length_set] at hm
    rw [getD_set _ _ _ _ hi]
    split
    · exact hv.below hb
    · exact (h.ok m hm).below hb
theorem Row.drew {g B : Nat} {xs : List El} {w : World} (h : Row g B xs w) : Row g B xs w.drew := ⟨h.cell, h.free, h.ok⟩
theorem Row.swapped {g B : Nat} {xs : List El} {w : World} (h : Row g B xs w) (hg : B ≤ g) (i j : Nat) (hi : i < xs.length) (hj : j < xs.length) :
    Row g B (swp xs i j) ((w.drew.setCell ⟨g, i, none⟩ (xs.getD j dE).v).setCell ⟨g, j, none⟩ (xs.getD i dE).v) :=
  (h.drew.set hg i _ hi (h.drew.ok j hj)).set hg j _ (by simpa using hj) ((h.drew.ok i hi).below ((Below.refl _ _).setCell hg _))
set_option maxRecDepth 100000 in
set_option maxHeartbeats 400000 in
theorem npop_any (P g B n c : Nat) (xs : List El) (w : World) (hn : xs.length = n + 1) (hnc : n + 1 ≤ c) (hP : w.cell? ⟨P, 0, none⟩ = some (.slice (some ⟨g, 0, none⟩) (n + 1) c)) (hF : w.frozen? ⟨P, 0, none⟩ = false) (h : Row g B xs w) (hN : n < 1000000) :
    Calls Try.prog 46 #[.pointer (some ⟨P, 0, none⟩)] w fun e w' => (∃ v, e = .returned v) ∧ w' = w.setCell ⟨P, 0, none⟩ (.slice (some ⟨g, 0, none⟩) n c) := by
  have cn := h.cell n (by omega)
  generalize xs.getD n dE = en at *
  obtain ⟨adn, nnn, ccn, ln⟩ := en
  simp only [El.v] at cn
  have hn0 : (0 : Int) ≤ (n : Int) := by omega
  have hn1 : (n : Int) < ((n + 1 : Nat) : Int) := by omega
  have hn2 : (n : Int) ≤ (c : Int) := by omega
  clear h
  go_enter Try.func46, Try.ntmps46
  go_wp2
  go_ret
  exact ⟨⟨_, rfl⟩, rfl⟩
end Go.Proofs.Ythgjpdbajmfclaa
