/-
  The law ShapePuts at any list of entries, any two entries: the walk; no condition.
-/
import Derived.Test.YtbfmklaakjepaaaDoorSha
import Derived.Test.YtbfmklaakjepaaaDoorShG
import Derived.Test.YtbfmklaakjepaaaDoorRuns
import Derived.Laws.StructEq
namespace Go.Proofs.YtbfmklaakjepaaaDoor
open Go.RowKit Go.WideShapes Go.ChangeShapes Go.Deep
set_option linter.all false
theorem onR {w w' : World} {A : Option Addr} {n : Nat} {xs : List Value} (h : Reads w w.heap.size 2 A n xs) (hb : Below w.heap.size w w') : Reads w' w'.heap.size 2 A n xs := (h.below hb).more hb.size
theorem afterB {a w w' : World} (h : Below a.heap.size a w) (hb : Below w.heap.size w w') : Below a.heap.size a w' := h.trans (hb.mono h.size)
theorem allocB {w w' : World} {o : Obj} (h : Below (w.alloc o).heap.size (w.alloc o) w') : Below w.heap.size w w' := ((Below.refl w.heap.size w).alloc (Nat.le_refl _) o).trans (h.mono (by simp))
theorem bx {wb w' : World} {p : Addr} {v : Value} (h : Below wb.heap.size wb w') (hv : wb.cell? p = some v) : w'.cell? p = some v := (h.cell (World.block_lt_of_cell? _ _ hv)).trans hv
section
variable {H : Type} {enc : TypeId × Value → H}
theorem ents_nil {W : World} {d : DataW H} {pl : List MemPlace} {t e : TypeId} {f0 f1 : Field} {A : Option Addr} {len cap : Nat} (ht : Tryd.prog.underlying t = some (.slice e)) (he : Tryd.prog.underlying e = some (.struct #[f0, f1]))
    (ce : Tryd.prog.cellsOf e = 2) (o0 : f0.offset = 0) (o1 : f1.offset = 1) (c0 : Tryd.prog.cellsOf f0.type = 1) (c1 : Tryd.prog.cellsOf f1.type = 1)
    (h : DataW.Trod enc Tryd.prog W 0 (fun _ => true) true t (.slice A len cap) d pl) : A = none → cap = 0 := by
  rintro rfl
  obtain ⟨fuel, hf⟩ := h
  rcases open_slice_pairs ht he ce o0 o1 c0 c1 hf with ⟨hcs, hx⟩ | ⟨a, len', cap', m, n, V0, V1, D0, D1, P0, P1, hcs, _⟩
  · simp [Value.cells] at hcs
    exact hcs.2
  · simp [Value.cells] at hcs
end
theorem reads_cut {w : World} {B n : Nat} {A : Option Addr} {es : List En} (h : Reads w B 2 A n (rowE es)) {k : Nat} (hk : k ≤ n) : Reads w B 2 A k (rowE (es.take k)) := reads_front h hk
set_option maxRecDepth 100000 in
set_option maxHeartbeats 6400000 in
theorem puts_any (A : Option Addr) (n c : Nat) (es : List En) (ta : ByteArray) (va : Int) (tb : ByteArray) (vb : Int) (w : World) (hx : Reads w w.heap.size 2 A n (rowE es)) (hnc : n ≤ c) (hc : c ≤ maxLen) (hA : A = none → c = 0) (ha : ta.size ≤ maxLen) (hb : tb.size ≤ maxLen) :
    Calls Tryd.prog 5 #[.slice A n c, .agg #[.string ta, .int .i64 va], .agg #[.string tb, .int .i64 vb]] w fun e w' => e = .returned (.bool true) ∧ Below w.heap.size w w' := by
  have hc9 : c ≤ 9223372036854775807 := Nat.le_trans hc (by decide)
  have HTA : Hid (Texts [(ta, va)]) := Lib.hid (fun e he => by rw [List.mem_singleton] at he; subst he; exact ha)
  have HTB : Hid (Texts [(tb, vb)]) := Lib.hid (fun e he => by rw [List.mem_singleton] at he; subst he; exact hb)
  obtain ⟨wb, hwb⟩ : ∃ wb, (w.alloc (.cells #[.string ta, .int .i64 va] 23)).alloc (.cells #[.string tb, .int .i64 vb] 23) = wb := ⟨_, rfl⟩
  have HW := Lib.hid hwb
  have HBW : Hid (Below w.heap.size w wb) := Lib.hid (by rw [← hwb]; exact ((Below.refl _ _).alloc (Nat.le_refl _) _).alloc (by simp) _)
  have hl1 : w.heap.size < (w.alloc (.cells #[.string ta, .int .i64 va] 23)).heap.size := by simp
  have BA0 : Hid (wb.cell? ⟨w.heap.size, 0, none⟩ = some (.string ta)) := Lib.hid (by rw [← hwb, World.cell?_alloc_lt _ _ _ hl1]; exact World.cell?_alloc_at _ _ _ _ rfl)
  have BA1 : Hid (wb.cell? ⟨w.heap.size, 1, none⟩ = some (.int .i64 va)) := Lib.hid (by rw [← hwb, World.cell?_alloc_lt _ _ _ hl1]; exact World.cell?_alloc_at _ _ _ _ rfl)
  have BB0 : Hid (wb.cell? ⟨w.heap.size + 1, 0, none⟩ = some (.string tb)) := Lib.hid (by rw [← hwb]; exact World.cell?_alloc_at _ _ _ _ (by simp))
  have BB1 : Hid (wb.cell? ⟨w.heap.size + 1, 1, none⟩ = some (.int .i64 vb)) := Lib.hid (by rw [← hwb]; exact World.cell?_alloc_at _ _ _ _ (by simp))
  have HXA : Hid (Reads wb wb.heap.size 2 A n (rowE es)) := Lib.hid (onR hx (by have := HBW.out; exact this))
  have HA := Lib.hid hA
  clear hx hwb hl1 hc ha hb
  have F14 : Hid True := trivial
  go_enter Tryd.func5, Tryd.ntmps5
  by_cases hn40 : n ≤ 40
  · have HX := HXA
    have HLE : Hid (es.length ≤ 40) := Lib.hid (by rw [ents_len HXA.out]; exact hn40)
    have hn41 : ¬ (40 : Int) < (n : Int) := by omega
    clear HXA
    cases hok : okB es with
    | false =>
      go_wp2_with (first
        | (go_at_call 14; clear F14; rw [HW.out]; refine (rightE_any _ _ _ es _ HX.out (by omega)).mono ?_; rintro e w1 ⟨rfl, hb1⟩; rw [hok]; replace HX := Lib.hid (onR HX.out hb1); have HB := Lib.hid hb1; have qa0 := bx hb1 BA0.out; have qa1 := bx hb1 BA1.out; clear hb1; have F15 : Hid True := trivial)
        | (go_at_call 3; refine (runs_any _).mono ?_; rintro e wz ⟨rfl, hbz⟩)
        | fail)
      go_ret
      exact ⟨rfl, HBW.out.trans ((afterB HB.out hbz).mono HBW.out.size)⟩
    | true =>
      cases hoa : okB [(ta, va)] with
      | false =>
        go_wp2_with (first
          | (go_at_call 14; clear F14; rw [HW.out]; refine (rightE_any _ _ _ es _ HX.out (by omega)).mono ?_; rintro e w1 ⟨rfl, hb1⟩; rw [hok]; replace HX := Lib.hid (onR HX.out hb1); have HB := Lib.hid hb1; have qa0 := bx hb1 BA0.out; have qa1 := bx hb1 BA1.out; clear hb1; have F15 : Hid True := trivial)
          | (go_at_call 15; clear F15; refine (rightL_any _ 1 1 [(ta, va)] _ (reads_new w1 ta va) HTA.out (by omega)).mono ?_; rintro e w2 ⟨rfl, hb2⟩; rw [hoa]; replace HX := Lib.hid (onR HX.out (allocB hb2)); replace HB := Lib.hid (afterB HB.out (allocB hb2)); clear qa0 qa1; have qb0 := bx HB.out BB0.out; have qb1 := bx HB.out BB1.out; clear hb2; have F16 : Hid True := trivial)
          | (go_at_call 3; refine (runs_any _).mono ?_; rintro e wz ⟨rfl, hbz⟩)
          | fail)
        go_ret
        exact ⟨rfl, HBW.out.trans ((afterB HB.out hbz).mono HBW.out.size)⟩
      | true =>
        cases hob : okB [(tb, vb)] with
        | false =>
          go_wp2_with (first
            | (go_at_call 14; clear F14; rw [HW.out]; refine (rightE_any _ _ _ es _ HX.out (by omega)).mono ?_; rintro e w1 ⟨rfl, hb1⟩; rw [hok]; replace HX := Lib.hid (onR HX.out hb1); have HB := Lib.hid hb1; have qa0 := bx hb1 BA0.out; have qa1 := bx hb1 BA1.out; clear hb1; have F15 : Hid True := trivial)
            | (go_at_call 15; clear F15; refine (rightL_any _ 1 1 [(ta, va)] _ (reads_new w1 ta va) HTA.out (by omega)).mono ?_; rintro e w2 ⟨rfl, hb2⟩; rw [hoa]; replace HX := Lib.hid (onR HX.out (allocB hb2)); replace HB := Lib.hid (afterB HB.out (allocB hb2)); clear qa0 qa1; have qb0 := bx HB.out BB0.out; have qb1 := bx HB.out BB1.out; clear hb2; have F16 : Hid True := trivial)
            | (go_at_call 15; clear F16; refine (rightL_any _ 1 1 [(tb, vb)] _ (reads_new w2 tb vb) HTB.out (by omega)).mono ?_; rintro e w3 ⟨rfl, hb3⟩; rw [hob]; replace HX := Lib.hid (onR HX.out (allocB hb3)); replace HB := Lib.hid (afterB HB.out (allocB hb3)); replace qb0 := bx HB.out BB0.out; replace qb1 := bx HB.out BB1.out; have qa0 := bx HB.out BA0.out; have qa1 := bx HB.out BA1.out; clear hb3; have T1 : Hid True := trivial)
            | (go_at_call 3; refine (runs_any _).mono ?_; rintro e wz ⟨rfl, hbz⟩)
            | fail)
          go_ret
          exact ⟨rfl, HBW.out.trans ((afterB HB.out hbz).mono HBW.out.size)⟩
        | true =>
          by_cases hab : ta = tb
          · have hsx : (ta.toList == tb.toList) = true := by rw [hab]; exact beq_self tb
            have HAB := Lib.hid hab
            clear hab
            go_wp2_with (first
              | (go_at_call 14; clear F14; rw [HW.out]; refine (rightE_any _ _ _ es _ HX.out (by omega)).mono ?_; rintro e w1 ⟨rfl, hb1⟩; rw [hok]; replace HX := Lib.hid (onR HX.out hb1); have HB := Lib.hid hb1; have qa0 := bx hb1 BA0.out; have qa1 := bx hb1 BA1.out; clear hb1; have F15 : Hid True := trivial)
              | (go_at_call 15; clear F15; refine (rightL_any _ 1 1 [(ta, va)] _ (reads_new w1 ta va) HTA.out (by omega)).mono ?_; rintro e w2 ⟨rfl, hb2⟩; rw [hoa]; replace HX := Lib.hid (onR HX.out (allocB hb2)); replace HB := Lib.hid (afterB HB.out (allocB hb2)); clear qa0 qa1; have qb0 := bx HB.out BB0.out; have qb1 := bx HB.out BB1.out; clear hb2; have F16 : Hid True := trivial)
              | (go_at_call 15; clear F16; refine (rightL_any _ 1 1 [(tb, vb)] _ (reads_new w2 tb vb) HTB.out (by omega)).mono ?_; rintro e w3 ⟨rfl, hb3⟩; rw [hob]; replace HX := Lib.hid (onR HX.out (allocB hb3)); replace HB := Lib.hid (afterB HB.out (allocB hb3)); replace qb0 := bx HB.out BB0.out; replace qb1 := bx HB.out BB1.out; have qa0 := bx HB.out BA0.out; have qa1 := bx HB.out BA1.out; clear hb3; have T1 : Hid True := trivial)
              | (go_at_call 3; refine (runs_any _).mono ?_; rintro e wz ⟨rfl, hbz⟩)
              | fail)
            go_ret
            exact ⟨rfl, HBW.out.trans ((afterB HB.out hbz).mono HBW.out.size)⟩
          · have hsx : (ta.toList == tb.toList) = false := by
              cases h : ta.toList == tb.toList with
              | false => rfl
              | true => exact absurd (toList_inj (by simpa using h)) hab
            have HAB := Lib.hid hab
            clear hab
            obtain ⟨Lx, hLx⟩ : ∃ L, L = putE ta va es := ⟨_, rfl⟩
            obtain ⟨Ly, hLy⟩ : ∃ L, L = putE tb vb Lx := ⟨_, rfl⟩
            obtain ⟨Lz, hLz⟩ : ∃ L, L = putE tb vb es := ⟨_, rfl⟩
            obtain ⟨Lu, hLu⟩ : ∃ L, L = putE ta va Lz := ⟨_, rfl⟩
            obtain ⟨Lv, hLv⟩ : ∃ L, L = putE ta 5 Lx := ⟨_, rfl⟩
            obtain ⟨Lw, hLw⟩ : ∃ L, L = dropE ta Lv := ⟨_, rfl⟩
            obtain ⟨Lo, hLo⟩ : ∃ L, L = dropE ta es := ⟨_, rfl⟩
            have HS1 : Hid (decide (Ly = Lu) = true) := Lib.hid (decide_eq_true (by rw [hLy, hLu, hLx, hLz]; exact put_comm va vb HAB.out _))
            have HS2 : Hid (decide (Lw = Lo) = true) := Lib.hid (decide_eq_true (by rw [hLw, hLo, hLv, hLx]; simp only [drop_is, put_is, put_drop]))
            have HT5 : Hid (thereN ta Lx = true) := Lib.hid (by rw [hLx, there_is, put_is]; exact put_there ta va _)
            have HW5 : Hid (wasN ta Lx = va) := Lib.hid (by rw [hLx, was_is, put_is]; exact put_was ta va _)
            have HT6 : Hid (thereN ta Lv = true) := Lib.hid (by rw [hLv, there_is, put_is]; exact put_there ta 5 _)
            have HW6 : Hid (wasN ta Lv = 5) := Lib.hid (by rw [hLv, was_is, put_is]; exact put_was ta 5 _)
            have HVV : Hid ((va == va) = true) := Lib.hid (by simp)
            have Nx : Hid (Lx.length ≤ es.length + 1) := Lib.hid (by rw [hLx]; exact putE_len _ _ _)
            have Ny : Hid (Ly.length ≤ Lx.length + 1) := Lib.hid (by rw [hLy]; exact putE_len _ _ _)
            have Nz : Hid (Lz.length ≤ es.length + 1) := Lib.hid (by rw [hLz]; exact putE_len _ _ _)
            have Nu : Hid (Lu.length ≤ Lz.length + 1) := Lib.hid (by rw [hLu]; exact putE_len _ _ _)
            have Nv : Hid (Lv.length ≤ Lx.length + 1) := Lib.hid (by rw [hLv]; exact putE_len _ _ _)
            have Nw : Hid (Lw.length ≤ Lv.length) := Lib.hid (by rw [hLw]; exact dropE_len _ _)
            have No : Hid (Lo.length ≤ es.length) := Lib.hid (by rw [hLo]; exact dropE_len _ _)
            have Ex := Lib.hid hLx
            have Ey := Lib.hid hLy
            have Ez := Lib.hid hLz
            have Eu := Lib.hid hLu
            have Ev := Lib.hid hLv
            have Ew := Lib.hid hLw
            have Eo := Lib.hid hLo
            clear hLx hLy hLz hLu hLv hLw hLo
            go_wp2_with (first
              | (go_at_call 14; clear F14; rw [HW.out]; refine (rightE_any _ _ _ es _ HX.out (by omega)).mono ?_; rintro e w1 ⟨rfl, hb1⟩; rw [hok]; replace HX := Lib.hid (onR HX.out hb1); have HB := Lib.hid hb1; have qa0 := bx hb1 BA0.out; have qa1 := bx hb1 BA1.out; clear hb1; have F15 : Hid True := trivial)
              | (go_at_call 15; clear F15; refine (rightL_any _ 1 1 [(ta, va)] _ (reads_new w1 ta va) HTA.out (by omega)).mono ?_; rintro e w2 ⟨rfl, hb2⟩; rw [hoa]; replace HX := Lib.hid (onR HX.out (allocB hb2)); replace HB := Lib.hid (afterB HB.out (allocB hb2)); clear qa0 qa1; have qb0 := bx HB.out BB0.out; have qb1 := bx HB.out BB1.out; clear hb2; have F16 : Hid True := trivial)
              | (go_at_call 15; clear F16; refine (rightL_any _ 1 1 [(tb, vb)] _ (reads_new w2 tb vb) HTB.out (by omega)).mono ?_; rintro e w3 ⟨rfl, hb3⟩; rw [hob]; replace HX := Lib.hid (onR HX.out (allocB hb3)); replace HB := Lib.hid (afterB HB.out (allocB hb3)); replace qb0 := bx HB.out BB0.out; replace qb1 := bx HB.out BB1.out; have qa0 := bx HB.out BA0.out; have qa1 := bx HB.out BA1.out; clear hb3; have T1 : Hid True := trivial)
              | (go_at_call 16; clear T1; refine (put_any _ _ _ es ta va _ HX.out (by omega) hnc hA).mono ?_; rintro e w4 ⟨Ax, nx, cx, rfl, hr, hcx, _, hzx', hb⟩; rw [← Ex.out] at hr; have hnx : nx ≤ 100 := (by have h1 := ents_len hr; have h2 := Nx.out; have h3 := HLE.out;  omega); have Hx := Lib.hid hr; have hzx := Lib.hid hzx'; clear hr hzx'; replace HX := Lib.hid (onR HX.out hb); replace HB := Lib.hid (afterB HB.out hb); replace qa0 := bx HB.out BA0.out; replace qa1 := bx HB.out BA1.out; replace qb0 := bx HB.out BB0.out; replace qb1 := bx HB.out BB1.out; clear hb; have T2 : Hid True := trivial)
              | (go_at_call 16; clear T2; refine (put_any _ _ _ Lx tb vb _ Hx.out (by omega) hcx hzx.out).mono ?_; rintro e w5 ⟨Ay, ny, cy, rfl, hr, hcy, _, hzy', hb⟩; rw [← Ey.out] at hr; have hny : ny ≤ 100 := (by have h1 := ents_len hr; have h2 := Ny.out; have h3 := HLE.out; have hx := Nx.out;  omega); have Hy := Lib.hid hr; have hzy := Lib.hid hzy'; clear hr hzy'; replace HX := Lib.hid (onR HX.out hb); replace Hx := Lib.hid (onR Hx.out hb); replace HB := Lib.hid (afterB HB.out hb); replace qa0 := bx HB.out BA0.out; replace qa1 := bx HB.out BA1.out; replace qb0 := bx HB.out BB0.out; replace qb1 := bx HB.out BB1.out; clear hb; have T3 : Hid True := trivial)
              | (go_at_call 16; clear T3; refine (put_any _ _ _ es tb vb _ HX.out (by omega) hnc hA).mono ?_; rintro e w6 ⟨Az, nz, cz, rfl, hr, hcz, _, hzz', hb⟩; rw [← Ez.out] at hr; have hnz : nz ≤ 100 := (by have h1 := ents_len hr; have h2 := Nz.out; have h3 := HLE.out; have hx := Nx.out; have hy := Ny.out;  omega); have Hz := Lib.hid hr; have hzz := Lib.hid hzz'; clear hr hzz'; replace HX := Lib.hid (onR HX.out hb); replace Hx := Lib.hid (onR Hx.out hb); replace Hy := Lib.hid (onR Hy.out hb); replace HB := Lib.hid (afterB HB.out hb); replace qa0 := bx HB.out BA0.out; replace qa1 := bx HB.out BA1.out; replace qb0 := bx HB.out BB0.out; replace qb1 := bx HB.out BB1.out; clear hb; have T4 : Hid True := trivial)
              | (go_at_call 16; clear T4; refine (put_any _ _ _ Lz ta va _ Hz.out (by omega) hcz hzz.out).mono ?_; rintro e w7 ⟨Au, nu, cu, rfl, hr, hcu, _, hzu', hb⟩; rw [← Eu.out] at hr; have hnu : nu ≤ 100 := (by have h1 := ents_len hr; have h2 := Nu.out; have h3 := HLE.out; have hx := Nx.out; have hy := Ny.out; have hz := Nz.out;  omega); have Hu := Lib.hid hr; have hzu := Lib.hid hzu'; clear hr hzu'; replace HX := Lib.hid (onR HX.out hb); replace Hx := Lib.hid (onR Hx.out hb); replace Hy := Lib.hid (onR Hy.out hb); replace Hz := Lib.hid (onR Hz.out hb); replace HB := Lib.hid (afterB HB.out hb); replace qa0 := bx HB.out BA0.out; replace qa1 := bx HB.out BA1.out; replace qb0 := bx HB.out BB0.out; replace qb1 := bx HB.out BB1.out; clear hb; have T5 : Hid True := trivial)
              | (go_at_call 16; clear T5; refine (put_any _ _ _ Lx ta 5 _ Hx.out (by omega) hcx hzx.out).mono ?_; rintro e w8 ⟨Av, nv, cv, rfl, hr, hcv, _, hzv', hb⟩; rw [← Ev.out] at hr; rw [HT5.out, HW5.out]; have hnv : nv ≤ 100 := (by have h1 := ents_len hr; have h2 := Nv.out; have h3 := HLE.out; have hx := Nx.out; have hy := Ny.out; have hz := Nz.out; have hu := Nu.out;  omega); have Hv := Lib.hid hr; have hzv := Lib.hid hzv'; clear hr hzv'; replace HX := Lib.hid (onR HX.out hb); replace Hx := Lib.hid (onR Hx.out hb); replace Hy := Lib.hid (onR Hy.out hb); replace Hz := Lib.hid (onR Hz.out hb); replace Hu := Lib.hid (onR Hu.out hb); replace HB := Lib.hid (afterB HB.out hb); replace qa0 := bx HB.out BA0.out; replace qa1 := bx HB.out BA1.out; replace qb0 := bx HB.out BB0.out; replace qb1 := bx HB.out BB1.out; clear hb; have T6 : Hid True := trivial)
              | (go_at_call 10; clear T6; refine (drop_any _ _ _ Lv ta _ Hv.out (by omega) hcv hzv.out).mono ?_; rintro e w9 ⟨Aw, nw, cw, rfl, hr, hcw, _, hzw', hb⟩; rw [← Ew.out] at hr; rw [HT6.out, HW6.out]; have hnw : nw ≤ 100 := (by have h1 := ents_len hr; have h2 := Nw.out; have h3 := HLE.out; have hx := Nx.out; have hy := Ny.out; have hz := Nz.out; have hu := Nu.out; have hv := Nv.out;  omega); have Hw := Lib.hid hr; have hzw := Lib.hid hzw'; clear hr hzw'; replace HX := Lib.hid (onR HX.out hb); replace Hx := Lib.hid (onR Hx.out hb); replace Hy := Lib.hid (onR Hy.out hb); replace Hz := Lib.hid (onR Hz.out hb); replace Hu := Lib.hid (onR Hu.out hb); replace Hv := Lib.hid (onR Hv.out hb); replace HB := Lib.hid (afterB HB.out hb); replace qa0 := bx HB.out BA0.out; replace qa1 := bx HB.out BA1.out; replace qb0 := bx HB.out BB0.out; replace qb1 := bx HB.out BB1.out; clear hb; have T7 : Hid True := trivial)
              | (go_at_call 10; clear T7; refine (drop_any _ _ _ es ta _ HX.out (by omega) hnc hA).mono ?_; rintro e w10 ⟨Ao, no, co, rfl, hr, hco, _, hzo', hb⟩; rw [← Eo.out] at hr; have hno : no ≤ 100 := (by have h1 := ents_len hr; have h2 := No.out; have h3 := HLE.out; have hx := Nx.out; have hy := Ny.out; have hz := Nz.out; have hu := Nu.out; have hv := Nv.out; have hw := Nw.out;  omega); have Ho := Lib.hid hr; have hzo := Lib.hid hzo'; clear hr hzo'; replace HX := Lib.hid (onR HX.out hb); replace Hx := Lib.hid (onR Hx.out hb); replace Hy := Lib.hid (onR Hy.out hb); replace Hz := Lib.hid (onR Hz.out hb); replace Hu := Lib.hid (onR Hu.out hb); replace Hv := Lib.hid (onR Hv.out hb); replace Hw := Lib.hid (onR Hw.out hb); replace HB := Lib.hid (afterB HB.out hb); replace qa0 := bx HB.out BA0.out; replace qa1 := bx HB.out BA1.out; replace qb0 := bx HB.out BB0.out; replace qb1 := bx HB.out BB1.out; clear hb; have T8 : Hid True := trivial)
              | (go_at_call 13; clear T8; refine (sameE_any _ _ _ _ _ _ Ly Lu _ Hy.out Hu.out (by omega) (by omega)).mono ?_; rintro e w11 ⟨rfl, hb⟩; rw [HS1.out]; replace Hw := Lib.hid (onR Hw.out hb); replace Ho := Lib.hid (onR Ho.out hb); replace HB := Lib.hid (afterB HB.out hb); replace qa0 := bx HB.out BA0.out; replace qa1 := bx HB.out BA1.out; replace qb0 := bx HB.out BB0.out; replace qb1 := bx HB.out BB1.out; have hvv := HVV.out; clear hb; have T9 : Hid True := trivial)
              | (go_at_call 13; clear T9; refine (sameE_any _ _ _ _ _ _ Lw Lo _ Hw.out Ho.out (by omega) (by omega)).mono ?_; rintro e w12 ⟨rfl, hb⟩; rw [HS2.out]; replace HB := Lib.hid (afterB HB.out hb); clear hb qa0 qa1 qb0 qb1)
              | (go_at_call 3; refine (runs_any _).mono ?_; rintro e wz ⟨rfl, hbz⟩)
              | fail)
            go_ret
            exact ⟨rfl, HBW.out.trans ((afterB HB.out hbz).mono HBW.out.size)⟩
  · have HX : Hid (Reads wb wb.heap.size 2 A 40 (rowE (es.take 40))) := Lib.hid (reads_front HXA.out (by omega))
    have HLE : Hid ((es.take 40).length ≤ 40) := Lib.hid (by rw [List.length_take]; omega)
    have hn41 : (40 : Int) < (n : Int) := by omega
    have hc40 : 40 ≤ c := by omega
    replace hnc : 40 ≤ c := by omega
    clear HXA
    generalize es.take 40 = fs at *
    cases hok : okB fs with
    | false =>
      go_wp2_with (first
        | (go_at_call 14; clear F14; rw [HW.out]; refine (rightE_any _ _ _ fs _ HX.out (by omega)).mono ?_; rintro e w1 ⟨rfl, hb1⟩; rw [hok]; replace HX := Lib.hid (onR HX.out hb1); have HB := Lib.hid hb1; have qa0 := bx hb1 BA0.out; have qa1 := bx hb1 BA1.out; clear hb1; have F15 : Hid True := trivial)
        | (go_at_call 3; refine (runs_any _).mono ?_; rintro e wz ⟨rfl, hbz⟩)
        | fail)
      go_ret
      exact ⟨rfl, HBW.out.trans ((afterB HB.out hbz).mono HBW.out.size)⟩
    | true =>
      cases hoa : okB [(ta, va)] with
      | false =>
        go_wp2_with (first
          | (go_at_call 14; clear F14; rw [HW.out]; refine (rightE_any _ _ _ fs _ HX.out (by omega)).mono ?_; rintro e w1 ⟨rfl, hb1⟩; rw [hok]; replace HX := Lib.hid (onR HX.out hb1); have HB := Lib.hid hb1; have qa0 := bx hb1 BA0.out; have qa1 := bx hb1 BA1.out; clear hb1; have F15 : Hid True := trivial)
          | (go_at_call 15; clear F15; refine (rightL_any _ 1 1 [(ta, va)] _ (reads_new w1 ta va) HTA.out (by omega)).mono ?_; rintro e w2 ⟨rfl, hb2⟩; rw [hoa]; replace HX := Lib.hid (onR HX.out (allocB hb2)); replace HB := Lib.hid (afterB HB.out (allocB hb2)); clear qa0 qa1; have qb0 := bx HB.out BB0.out; have qb1 := bx HB.out BB1.out; clear hb2; have F16 : Hid True := trivial)
          | (go_at_call 3; refine (runs_any _).mono ?_; rintro e wz ⟨rfl, hbz⟩)
          | fail)
        go_ret
        exact ⟨rfl, HBW.out.trans ((afterB HB.out hbz).mono HBW.out.size)⟩
      | true =>
        cases hob : okB [(tb, vb)] with
        | false =>
          go_wp2_with (first
            | (go_at_call 14; clear F14; rw [HW.out]; refine (rightE_any _ _ _ fs _ HX.out (by omega)).mono ?_; rintro e w1 ⟨rfl, hb1⟩; rw [hok]; replace HX := Lib.hid (onR HX.out hb1); have HB := Lib.hid hb1; have qa0 := bx hb1 BA0.out; have qa1 := bx hb1 BA1.out; clear hb1; have F15 : Hid True := trivial)
            | (go_at_call 15; clear F15; refine (rightL_any _ 1 1 [(ta, va)] _ (reads_new w1 ta va) HTA.out (by omega)).mono ?_; rintro e w2 ⟨rfl, hb2⟩; rw [hoa]; replace HX := Lib.hid (onR HX.out (allocB hb2)); replace HB := Lib.hid (afterB HB.out (allocB hb2)); clear qa0 qa1; have qb0 := bx HB.out BB0.out; have qb1 := bx HB.out BB1.out; clear hb2; have F16 : Hid True := trivial)
            | (go_at_call 15; clear F16; refine (rightL_any _ 1 1 [(tb, vb)] _ (reads_new w2 tb vb) HTB.out (by omega)).mono ?_; rintro e w3 ⟨rfl, hb3⟩; rw [hob]; replace HX := Lib.hid (onR HX.out (allocB hb3)); replace HB := Lib.hid (afterB HB.out (allocB hb3)); replace qb0 := bx HB.out BB0.out; replace qb1 := bx HB.out BB1.out; have qa0 := bx HB.out BA0.out; have qa1 := bx HB.out BA1.out; clear hb3; have T1 : Hid True := trivial)
            | (go_at_call 3; refine (runs_any _).mono ?_; rintro e wz ⟨rfl, hbz⟩)
            | fail)
          go_ret
          exact ⟨rfl, HBW.out.trans ((afterB HB.out hbz).mono HBW.out.size)⟩
        | true =>
          by_cases hab : ta = tb
          · have hsx : (ta.toList == tb.toList) = true := by rw [hab]; exact beq_self tb
            have HAB := Lib.hid hab
            clear hab
            go_wp2_with (first
              | (go_at_call 14; clear F14; rw [HW.out]; refine (rightE_any _ _ _ fs _ HX.out (by omega)).mono ?_; rintro e w1 ⟨rfl, hb1⟩; rw [hok]; replace HX := Lib.hid (onR HX.out hb1); have HB := Lib.hid hb1; have qa0 := bx hb1 BA0.out; have qa1 := bx hb1 BA1.out; clear hb1; have F15 : Hid True := trivial)
              | (go_at_call 15; clear F15; refine (rightL_any _ 1 1 [(ta, va)] _ (reads_new w1 ta va) HTA.out (by omega)).mono ?_; rintro e w2 ⟨rfl, hb2⟩; rw [hoa]; replace HX := Lib.hid (onR HX.out (allocB hb2)); replace HB := Lib.hid (afterB HB.out (allocB hb2)); clear qa0 qa1; have qb0 := bx HB.out BB0.out; have qb1 := bx HB.out BB1.out; clear hb2; have F16 : Hid True := trivial)
              | (go_at_call 15; clear F16; refine (rightL_any _ 1 1 [(tb, vb)] _ (reads_new w2 tb vb) HTB.out (by omega)).mono ?_; rintro e w3 ⟨rfl, hb3⟩; rw [hob]; replace HX := Lib.hid (onR HX.out (allocB hb3)); replace HB := Lib.hid (afterB HB.out (allocB hb3)); replace qb0 := bx HB.out BB0.out; replace qb1 := bx HB.out BB1.out; have qa0 := bx HB.out BA0.out; have qa1 := bx HB.out BA1.out; clear hb3; have T1 : Hid True := trivial)
              | (go_at_call 3; refine (runs_any _).mono ?_; rintro e wz ⟨rfl, hbz⟩)
              | fail)
            go_ret
            exact ⟨rfl, HBW.out.trans ((afterB HB.out hbz).mono HBW.out.size)⟩
          · have hsx : (ta.toList == tb.toList) = false := by
              cases h : ta.toList == tb.toList with
              | false => rfl
              | true => exact absurd (toList_inj (by simpa using h)) hab
            have HAB := Lib.hid hab
            clear hab
            obtain ⟨Lx, hLx⟩ : ∃ L, L = putE ta va fs := ⟨_, rfl⟩
            obtain ⟨Ly, hLy⟩ : ∃ L, L = putE tb vb Lx := ⟨_, rfl⟩
            obtain ⟨Lz, hLz⟩ : ∃ L, L = putE tb vb fs := ⟨_, rfl⟩
            obtain ⟨Lu, hLu⟩ : ∃ L, L = putE ta va Lz := ⟨_, rfl⟩
            obtain ⟨Lv, hLv⟩ : ∃ L, L = putE ta 5 Lx := ⟨_, rfl⟩
            obtain ⟨Lw, hLw⟩ : ∃ L, L = dropE ta Lv := ⟨_, rfl⟩
            obtain ⟨Lo, hLo⟩ : ∃ L, L = dropE ta fs := ⟨_, rfl⟩
            have HS1 : Hid (decide (Ly = Lu) = true) := Lib.hid (decide_eq_true (by rw [hLy, hLu, hLx, hLz]; exact put_comm va vb HAB.out _))
            have HS2 : Hid (decide (Lw = Lo) = true) := Lib.hid (decide_eq_true (by rw [hLw, hLo, hLv, hLx]; simp only [drop_is, put_is, put_drop]))
            have HT5 : Hid (thereN ta Lx = true) := Lib.hid (by rw [hLx, there_is, put_is]; exact put_there ta va _)
            have HW5 : Hid (wasN ta Lx = va) := Lib.hid (by rw [hLx, was_is, put_is]; exact put_was ta va _)
            have HT6 : Hid (thereN ta Lv = true) := Lib.hid (by rw [hLv, there_is, put_is]; exact put_there ta 5 _)
            have HW6 : Hid (wasN ta Lv = 5) := Lib.hid (by rw [hLv, was_is, put_is]; exact put_was ta 5 _)
            have HVV : Hid ((va == va) = true) := Lib.hid (by simp)
            have Nx : Hid (Lx.length ≤ fs.length + 1) := Lib.hid (by rw [hLx]; exact putE_len _ _ _)
            have Ny : Hid (Ly.length ≤ Lx.length + 1) := Lib.hid (by rw [hLy]; exact putE_len _ _ _)
            have Nz : Hid (Lz.length ≤ fs.length + 1) := Lib.hid (by rw [hLz]; exact putE_len _ _ _)
            have Nu : Hid (Lu.length ≤ Lz.length + 1) := Lib.hid (by rw [hLu]; exact putE_len _ _ _)
            have Nv : Hid (Lv.length ≤ Lx.length + 1) := Lib.hid (by rw [hLv]; exact putE_len _ _ _)
            have Nw : Hid (Lw.length ≤ Lv.length) := Lib.hid (by rw [hLw]; exact dropE_len _ _)
            have No : Hid (Lo.length ≤ fs.length) := Lib.hid (by rw [hLo]; exact dropE_len _ _)
            have Ex := Lib.hid hLx
            have Ey := Lib.hid hLy
            have Ez := Lib.hid hLz
            have Eu := Lib.hid hLu
            have Ev := Lib.hid hLv
            have Ew := Lib.hid hLw
            have Eo := Lib.hid hLo
            clear hLx hLy hLz hLu hLv hLw hLo
            go_wp2_with (first
              | (go_at_call 14; clear F14; rw [HW.out]; refine (rightE_any _ _ _ fs _ HX.out (by omega)).mono ?_; rintro e w1 ⟨rfl, hb1⟩; rw [hok]; replace HX := Lib.hid (onR HX.out hb1); have HB := Lib.hid hb1; have qa0 := bx hb1 BA0.out; have qa1 := bx hb1 BA1.out; clear hb1; have F15 : Hid True := trivial)
              | (go_at_call 15; clear F15; refine (rightL_any _ 1 1 [(ta, va)] _ (reads_new w1 ta va) HTA.out (by omega)).mono ?_; rintro e w2 ⟨rfl, hb2⟩; rw [hoa]; replace HX := Lib.hid (onR HX.out (allocB hb2)); replace HB := Lib.hid (afterB HB.out (allocB hb2)); clear qa0 qa1; have qb0 := bx HB.out BB0.out; have qb1 := bx HB.out BB1.out; clear hb2; have F16 : Hid True := trivial)
              | (go_at_call 15; clear F16; refine (rightL_any _ 1 1 [(tb, vb)] _ (reads_new w2 tb vb) HTB.out (by omega)).mono ?_; rintro e w3 ⟨rfl, hb3⟩; rw [hob]; replace HX := Lib.hid (onR HX.out (allocB hb3)); replace HB := Lib.hid (afterB HB.out (allocB hb3)); replace qb0 := bx HB.out BB0.out; replace qb1 := bx HB.out BB1.out; have qa0 := bx HB.out BA0.out; have qa1 := bx HB.out BA1.out; clear hb3; have T1 : Hid True := trivial)
              | (go_at_call 16; clear T1; refine (put_any _ _ _ fs ta va _ HX.out (by omega) hnc hA).mono ?_; rintro e w4 ⟨Ax, nx, cx, rfl, hr, hcx, _, hzx', hb⟩; rw [← Ex.out] at hr; have hnx : nx ≤ 100 := (by have h1 := ents_len hr; have h2 := Nx.out; have h3 := HLE.out;  omega); have Hx := Lib.hid hr; have hzx := Lib.hid hzx'; clear hr hzx'; replace HX := Lib.hid (onR HX.out hb); replace HB := Lib.hid (afterB HB.out hb); replace qa0 := bx HB.out BA0.out; replace qa1 := bx HB.out BA1.out; replace qb0 := bx HB.out BB0.out; replace qb1 := bx HB.out BB1.out; clear hb; have T2 : Hid True := trivial)
              | (go_at_call 16; clear T2; refine (put_any _ _ _ Lx tb vb _ Hx.out (by omega) hcx hzx.out).mono ?_; rintro e w5 ⟨Ay, ny, cy, rfl, hr, hcy, _, hzy', hb⟩; rw [← Ey.out] at hr; have hny : ny ≤ 100 := (by have h1 := ents_len hr; have h2 := Ny.out; have h3 := HLE.out; have hx := Nx.out;  omega); have Hy := Lib.hid hr; have hzy := Lib.hid hzy'; clear hr hzy'; replace HX := Lib.hid (onR HX.out hb); replace Hx := Lib.hid (onR Hx.out hb); replace HB := Lib.hid (afterB HB.out hb); replace qa0 := bx HB.out BA0.out; replace qa1 := bx HB.out BA1.out; replace qb0 := bx HB.out BB0.out; replace qb1 := bx HB.out BB1.out; clear hb; have T3 : Hid True := trivial)
              | (go_at_call 16; clear T3; refine (put_any _ _ _ fs tb vb _ HX.out (by omega) hnc hA).mono ?_; rintro e w6 ⟨Az, nz, cz, rfl, hr, hcz, _, hzz', hb⟩; rw [← Ez.out] at hr; have hnz : nz ≤ 100 := (by have h1 := ents_len hr; have h2 := Nz.out; have h3 := HLE.out; have hx := Nx.out; have hy := Ny.out;  omega); have Hz := Lib.hid hr; have hzz := Lib.hid hzz'; clear hr hzz'; replace HX := Lib.hid (onR HX.out hb); replace Hx := Lib.hid (onR Hx.out hb); replace Hy := Lib.hid (onR Hy.out hb); replace HB := Lib.hid (afterB HB.out hb); replace qa0 := bx HB.out BA0.out; replace qa1 := bx HB.out BA1.out; replace qb0 := bx HB.out BB0.out; replace qb1 := bx HB.out BB1.out; clear hb; have T4 : Hid True := trivial)
              | (go_at_call 16; clear T4; refine (put_any _ _ _ Lz ta va _ Hz.out (by omega) hcz hzz.out).mono ?_; rintro e w7 ⟨Au, nu, cu, rfl, hr, hcu, _, hzu', hb⟩; rw [← Eu.out] at hr; have hnu : nu ≤ 100 := (by have h1 := ents_len hr; have h2 := Nu.out; have h3 := HLE.out; have hx := Nx.out; have hy := Ny.out; have hz := Nz.out;  omega); have Hu := Lib.hid hr; have hzu := Lib.hid hzu'; clear hr hzu'; replace HX := Lib.hid (onR HX.out hb); replace Hx := Lib.hid (onR Hx.out hb); replace Hy := Lib.hid (onR Hy.out hb); replace Hz := Lib.hid (onR Hz.out hb); replace HB := Lib.hid (afterB HB.out hb); replace qa0 := bx HB.out BA0.out; replace qa1 := bx HB.out BA1.out; replace qb0 := bx HB.out BB0.out; replace qb1 := bx HB.out BB1.out; clear hb; have T5 : Hid True := trivial)
              | (go_at_call 16; clear T5; refine (put_any _ _ _ Lx ta 5 _ Hx.out (by omega) hcx hzx.out).mono ?_; rintro e w8 ⟨Av, nv, cv, rfl, hr, hcv, _, hzv', hb⟩; rw [← Ev.out] at hr; rw [HT5.out, HW5.out]; have hnv : nv ≤ 100 := (by have h1 := ents_len hr; have h2 := Nv.out; have h3 := HLE.out; have hx := Nx.out; have hy := Ny.out; have hz := Nz.out; have hu := Nu.out;  omega); have Hv := Lib.hid hr; have hzv := Lib.hid hzv'; clear hr hzv'; replace HX := Lib.hid (onR HX.out hb); replace Hx := Lib.hid (onR Hx.out hb); replace Hy := Lib.hid (onR Hy.out hb); replace Hz := Lib.hid (onR Hz.out hb); replace Hu := Lib.hid (onR Hu.out hb); replace HB := Lib.hid (afterB HB.out hb); replace qa0 := bx HB.out BA0.out; replace qa1 := bx HB.out BA1.out; replace qb0 := bx HB.out BB0.out; replace qb1 := bx HB.out BB1.out; clear hb; have T6 : Hid True := trivial)
              | (go_at_call 10; clear T6; refine (drop_any _ _ _ Lv ta _ Hv.out (by omega) hcv hzv.out).mono ?_; rintro e w9 ⟨Aw, nw, cw, rfl, hr, hcw, _, hzw', hb⟩; rw [← Ew.out] at hr; rw [HT6.out, HW6.out]; have hnw : nw ≤ 100 := (by have h1 := ents_len hr; have h2 := Nw.out; have h3 := HLE.out; have hx := Nx.out; have hy := Ny.out; have hz := Nz.out; have hu := Nu.out; have hv := Nv.out;  omega); have Hw := Lib.hid hr; have hzw := Lib.hid hzw'; clear hr hzw'; replace HX := Lib.hid (onR HX.out hb); replace Hx := Lib.hid (onR Hx.out hb); replace Hy := Lib.hid (onR Hy.out hb); replace Hz := Lib.hid (onR Hz.out hb); replace Hu := Lib.hid (onR Hu.out hb); replace Hv := Lib.hid (onR Hv.out hb); replace HB := Lib.hid (afterB HB.out hb); replace qa0 := bx HB.out BA0.out; replace qa1 := bx HB.out BA1.out; replace qb0 := bx HB.out BB0.out; replace qb1 := bx HB.out BB1.out; clear hb; have T7 : Hid True := trivial)
              | (go_at_call 10; clear T7; refine (drop_any _ _ _ fs ta _ HX.out (by omega) hnc hA).mono ?_; rintro e w10 ⟨Ao, no, co, rfl, hr, hco, _, hzo', hb⟩; rw [← Eo.out] at hr; have hno : no ≤ 100 := (by have h1 := ents_len hr; have h2 := No.out; have h3 := HLE.out; have hx := Nx.out; have hy := Ny.out; have hz := Nz.out; have hu := Nu.out; have hv := Nv.out; have hw := Nw.out;  omega); have Ho := Lib.hid hr; have hzo := Lib.hid hzo'; clear hr hzo'; replace HX := Lib.hid (onR HX.out hb); replace Hx := Lib.hid (onR Hx.out hb); replace Hy := Lib.hid (onR Hy.out hb); replace Hz := Lib.hid (onR Hz.out hb); replace Hu := Lib.hid (onR Hu.out hb); replace Hv := Lib.hid (onR Hv.out hb); replace Hw := Lib.hid (onR Hw.out hb); replace HB := Lib.hid (afterB HB.out hb); replace qa0 := bx HB.out BA0.out; replace qa1 := bx HB.out BA1.out; replace qb0 := bx HB.out BB0.out; replace qb1 := bx HB.out BB1.out; clear hb; have T8 : Hid True := trivial)
              | (go_at_call 13; clear T8; refine (sameE_any _ _ _ _ _ _ Ly Lu _ Hy.out Hu.out (by omega) (by omega)).mono ?_; rintro e w11 ⟨rfl, hb⟩; rw [HS1.out]; replace Hw := Lib.hid (onR Hw.out hb); replace Ho := Lib.hid (onR Ho.out hb); replace HB := Lib.hid (afterB HB.out hb); replace qa0 := bx HB.out BA0.out; replace qa1 := bx HB.out BA1.out; replace qb0 := bx HB.out BB0.out; replace qb1 := bx HB.out BB1.out; have hvv := HVV.out; clear hb; have T9 : Hid True := trivial)
              | (go_at_call 13; clear T9; refine (sameE_any _ _ _ _ _ _ Lw Lo _ Hw.out Ho.out (by omega) (by omega)).mono ?_; rintro e w12 ⟨rfl, hb⟩; rw [HS2.out]; replace HB := Lib.hid (afterB HB.out hb); clear hb qa0 qa1 qb0 qb1)
              | (go_at_call 3; refine (runs_any _).mono ?_; rintro e wz ⟨rfl, hbz⟩)
              | fail)
            go_ret
            exact ⟨rfl, HBW.out.trans ((afterB HB.out hbz).mono HBW.out.size)⟩
end Go.Proofs.YtbfmklaakjepaaaDoor
