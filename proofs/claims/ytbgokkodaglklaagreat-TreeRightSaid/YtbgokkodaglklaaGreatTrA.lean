/-
  What a new get, scan, put, drop, tick is, and when an operation is right: walked, and parts reckoned by a verified evaluator; no condition beyond a length that fits an int.
-/
import Derived.Test.YtbgokkodaglklaaGreatBase
import Derived.Test.YtbgokkodaglklaaGreatEvP
import Derived.Test.YtbgokkodaglklaaGreatStr
import Derived.WalkLawsBesides
import Derived.Laws.Concat
import Derived.BigFrame
import Derived.BigRegion
import Derived.Laws.Small
import Derived.Laws.Cover1
import Derived.Laws.Slices
import Derived.Laws.Strings
import Derived.Laws.StructEq
namespace Go.Proofs.YtbgokkodaglklaaGreat
open Go.RowKit Go.WideShapes Go.ChangeShapes
set_option linter.all false
set_option maxRecDepth 1000000
section
variable [Ev.Tok] [Ev.Sym]
theorem c_lss {x y : Value} {a b : Int} {e : Bool} (h : decide (a < b) = e) (hx : ∀ γ, Ev.ren γ x = .int .i64 a) (hy : ∀ γ, Ev.ren γ y = .int .i64 b) : (Ev.BRow.mk .lss x y (.bool e)).ok Tryz.prog :=
  Ev.brow_int (k := .i64) (a := a) (b := b) rfl hx hy (u := .bool (decide (a < b))) rfl (fun γ => by rw [h]; rfl) trivial
theorem c_eql {x y : Value} {a b : Int} {e : Bool} (h : (a == b) = e) (hx : ∀ γ, Ev.ren γ x = .int .i64 a) (hy : ∀ γ, Ev.ren γ y = .int .i64 b) : (Ev.BRow.mk .eql x y (.bool e)).ok Tryz.prog :=
  Ev.brow_int (k := .i64) (a := a) (b := b) rfl hx hy (u := .bool (a == b)) rfl (fun γ => by rw [h]; rfl) trivial
theorem c_gtr {x y : Value} {a b : Int} {e : Bool} (h : decide (a > b) = e) (hx : ∀ γ, Ev.ren γ x = .int .i64 a) (hy : ∀ γ, Ev.ren γ y = .int .i64 b) : (Ev.BRow.mk .gtr x y (.bool e)).ok Tryz.prog :=
  Ev.brow_int (k := .i64) (a := a) (b := b) rfl hx hy (u := .bool (decide (a > b))) rfl (fun γ => by rw [h]; rfl) trivial
end
/-- Are these the operations that a program of each kind is made of? -/
def okG (k : Int) (t u : ByteArray) (v : Int) : Prop := k = 1 ∧ rightL t.data.toList = true ∧ u.toList = [] ∧ v = 0
def okP (k : Int) (t u : ByteArray) (v : Int) : Prop := k = 2 ∧ rightL t.data.toList = true ∧ 0 ≤ v ∧ v ≤ 1099511627776 ∧ u.toList = []
def okD (k : Int) (t u : ByteArray) (v : Int) : Prop := k = 3 ∧ rightL t.data.toList = true ∧ v = 0 ∧ u.toList = []
def okS (k : Int) (t u : ByteArray) (v : Int) : Prop := k = 4 ∧ 1 ≤ v ∧ v ≤ 16 ∧ t.size ≤ 13 ∧ u.size ≤ 13
def okT (k : Int) (t u : ByteArray) (v n : Int) : Prop := k = 5 ∧ t.toList = [] ∧ u.toList = [] ∧ v = 0 ∧ 1 ≤ n ∧ n ≤ 8
/-- A new program, or none. -/
def NewR (z : Int) (w : World) (e : Ending) (w' : World) : Prop := ∃ q : Option Addr, e = .returned (.tuple #[.pointer q, .int .i64 z]) ∧ Below w.heap.size w w' ∧ (z = 1 → q = none)
def opV (k : Int) (t u : ByteArray) (v : Int) : Value := .agg #[.int .i64 k, .string t, .string u, .int .i64 v]
theorem toList_nil {t : ByteArray} (h : t.toList = []) : t = ⟨#[]⟩ := by
  rw [ByteArray.toList_eq] at h
  exact ByteArray.ext (Array.toList_inj.1 h)
theorem bne0 {v : Int} (h : (v != 0) = false) : v = 0 := by simpa using h
/-- A call that hands back a value that hangs on no memory. -/
noncomputable def isVal (u : Value) : Ev.Res → Bool
  | .val v _ => Ev.veq v u
  | _ => false
theorem calls_val [Ev.Tok] [Ev.Sym] {P : Program} {orc : Ev.Orc} (hs : Ev.SymOk P) (ho : Ev.OrcOk P orc) (hm : P.follows .mixedOrders = true) {n g : Nat} {u : Value} {args : List Value} (hu : ∀ γ, Ev.ren γ u = u) (ha : ∀ v ∈ args, Ev.Wf 0 v) (h : isVal u (Ev.runF P orc n (.fn g args Ev.st0)) = true) (w : World) :
    Calls P g (args.map (Ev.ren Ev.γ0)).toArray w fun e w' => e = .returned u ∧ Below w.heap.size w w' := by
  rw [Ev.runF_eq] at h
  unfold isVal at h
  split at h
  case h_2 => cases h
  rename_i v s hres
  have hv := Ev.veq_spec _ _ h
  subst hv
  have := (Ev.sound hs ho hm n).1.2 g args Ev.st0 _ s hres (fun k => k < w.heap.size) Ev.γ0 w (Ev.R.zero _ w) ha
  refine this.mono ?_
  rintro r w' ⟨γ, rfl, _, hR, _, hb, _⟩
  exact ⟨by rw [hu γ], hb.below⟩
theorem fastS (S : Ev.Sym) {P : Program} {orc : Ev.Orc} {n : Nat} {q : Ev.Req} (h : Ev.isTrue (@Ev.runF S P orc n q) = true) : Ev.isTrue (@Ev.run S P orc n q) = true := by
  letI : Ev.Tok := ⟨fun _ => 0, fun _ => ByteArray.empty⟩
  letI := S
  exact Ev.fast h
def gOracle : List Ev.ORow := [⟨11, [.float .f64 0], .bool true⟩, ⟨12, [.float .f64 0], .float .f64 1⟩]
def getRows : List Ev.BRow := []
theorem get_ev : Ev.isNew (@Ev.runF (Ev.tabSym getRows [] []) Tryz.prog (Ev.orcOf gOracle [] []) 4000 (.fn 4 [.agg #[num 1, .float .f64 0, .string ⟨#[]⟩, num 0], num 65536] Ev.st0)) = true := by kernel_rfl
theorem rget_ev : Ev.isTrue (@Ev.runF (Ev.tabSym getRows [] []) Tryz.prog (Ev.orcOf gOracle [] []) 8000 (.fn 9 [.agg #[num 1, .float .f64 0, .string ⟨#[]⟩, num 0], tk 1] Ev.st0)) = true := by kernel_rfl
theorem getNew_ok (s : ByteArray) (h : rightL s.data.toList = true) (w : World) : Calls Tryz.prog 4 #[opV 1 s ⟨#[]⟩ 0, .int .i64 65536] w (NewR 0 w) := by
  letI : Ev.Tok := ⟨fun i => 0, fun i => if i = 0 then s else keyB s⟩
  letI : Ev.Sym := Ev.noSym
  have hr : ∀ r ∈ getRows, r.ok Tryz.prog := by
    simp [getRows]
  have ho : ∀ r ∈ gOracle, r.ok Tryz.prog := by
    intro r hr
    simp only [gOracle, List.mem_cons, List.not_mem_nil, or_false] at hr
    rcases hr with rfl | rfl
    · exact ⟨trivial, fun γ w => (right_any s w).mono fun e w' ⟨he, hw⟩ => ⟨by rw [he, h]; rfl, by rw [hw]; exact Below.refl _ _⟩⟩
    · exact ⟨trivial, fun γ w => (key_any s w).mono fun e w' ⟨he, hw⟩ => ⟨by rw [he]; rfl, by rw [hw]; exact Below.refl _ _⟩⟩
  refine (@Ev.calls_new _ (Ev.tabSym getRows [] []) Tryz.prog _ (Ev.tabSym_ok hr (by simp) (by simp)) (Ev.orcOf_ok ho (by simp) (by simp)) mixed 4000 4 [.agg #[num 1, .float .f64 0, .string ⟨#[]⟩, num 0], num 65536] (by simp [Ev.Wf, Ev.WfL, num, tk]) get_ev w).mono ?_
  rintro e w1 ⟨p, rfl, hb⟩
  exact ⟨some p, rfl, hb, fun h => by cases h⟩
theorem rget_ok (s : ByteArray) (h : rightL s.data.toList = true) (n : Int) (w : World) : Calls Tryz.prog 9 #[opV 1 s ⟨#[]⟩ 0, .int .i64 n] w fun e w1 => e = .returned (.bool true) ∧ Below w.heap.size w w1 := by
  letI : Ev.Tok := ⟨fun i => n, fun i => if i = 0 then s else keyB s⟩
  letI : Ev.Sym := Ev.noSym
  have hr : ∀ r ∈ getRows, r.ok Tryz.prog := by
    simp [getRows]
  have ho : ∀ r ∈ gOracle, r.ok Tryz.prog := by
    intro r hr
    simp only [gOracle, List.mem_cons, List.not_mem_nil, or_false] at hr
    rcases hr with rfl | rfl
    · exact ⟨trivial, fun γ w => (right_any s w).mono fun e w' ⟨he, hw⟩ => ⟨by rw [he, h]; rfl, by rw [hw]; exact Below.refl _ _⟩⟩
    · exact ⟨trivial, fun γ w => (key_any s w).mono fun e w' ⟨he, hw⟩ => ⟨by rw [he]; rfl, by rw [hw]; exact Below.refl _ _⟩⟩
  exact @Ev.calls_true_args _ (Ev.tabSym getRows [] []) Tryz.prog _ (Ev.tabSym_ok hr (by simp) (by simp)) (Ev.orcOf_ok ho (by simp) (by simp)) mixed 8000 9 [.agg #[num 1, .float .f64 0, .string ⟨#[]⟩, num 0], tk 1] (by simp [Ev.Wf, Ev.WfL, num, tk]) (fastS (Ev.tabSym getRows [] []) rget_ev) w
def putRows : List Ev.BRow := [⟨.lss, tk 0, num 0, .bool false⟩, ⟨.gtr, tk 0, num 1099511627776, .bool false⟩]
theorem put_ev : Ev.isNew (@Ev.runF (Ev.tabSym putRows [] []) Tryz.prog (Ev.orcOf gOracle [] []) 4000 (.fn 6 [.agg #[num 2, .float .f64 0, .string ⟨#[]⟩, tk 0], num 65536, num 1] Ev.st0)) = true := by kernel_rfl
theorem rput_ev : Ev.isTrue (@Ev.runF (Ev.tabSym putRows [] []) Tryz.prog (Ev.orcOf gOracle [] []) 8000 (.fn 9 [.agg #[num 2, .float .f64 0, .string ⟨#[]⟩, tk 0], tk 1] Ev.st0)) = true := by kernel_rfl
theorem putNew_ok (s : ByteArray) (v : Int) (h : rightL s.data.toList = true) (h1 : 0 ≤ v) (h2 : v ≤ 1099511627776) (w : World) : Calls Tryz.prog 6 #[opV 2 s ⟨#[]⟩ v, .int .i64 65536, .int .i64 1] w (NewR 0 w) := by
  letI : Ev.Tok := ⟨fun i => if i = 0 then v else 0, fun i => if i = 0 then s else keyB s⟩
  letI : Ev.Sym := Ev.noSym
  have hr : ∀ r ∈ putRows, r.ok Tryz.prog := by
    intro r hr
    simp only [putRows, List.mem_cons, List.not_mem_nil, or_false] at hr
    rcases hr with rfl | rfl
    · exact c_lss (a := v) (b := 0) (decide_eq_false (by omega)) (fun _ => rfl) (fun _ => rfl)
    · exact c_gtr (a := v) (b := 1099511627776) (decide_eq_false (by omega)) (fun _ => rfl) (fun _ => rfl)
  have ho : ∀ r ∈ gOracle, r.ok Tryz.prog := by
    intro r hr
    simp only [gOracle, List.mem_cons, List.not_mem_nil, or_false] at hr
    rcases hr with rfl | rfl
    · exact ⟨trivial, fun γ w => (right_any s w).mono fun e w' ⟨he, hw⟩ => ⟨by rw [he, h]; rfl, by rw [hw]; exact Below.refl _ _⟩⟩
    · exact ⟨trivial, fun γ w => (key_any s w).mono fun e w' ⟨he, hw⟩ => ⟨by rw [he]; rfl, by rw [hw]; exact Below.refl _ _⟩⟩
  refine (@Ev.calls_new _ (Ev.tabSym putRows [] []) Tryz.prog _ (Ev.tabSym_ok hr (by simp) (by simp)) (Ev.orcOf_ok ho (by simp) (by simp)) mixed 4000 6 [.agg #[num 2, .float .f64 0, .string ⟨#[]⟩, tk 0], num 65536, num 1] (by simp [Ev.Wf, Ev.WfL, num, tk]) put_ev w).mono ?_
  rintro e w1 ⟨p, rfl, hb⟩
  exact ⟨some p, rfl, hb, fun h => by cases h⟩
theorem rput_ok (s : ByteArray) (v : Int) (h : rightL s.data.toList = true) (h1 : 0 ≤ v) (h2 : v ≤ 1099511627776) (n : Int) (w : World) : Calls Tryz.prog 9 #[opV 2 s ⟨#[]⟩ v, .int .i64 n] w fun e w1 => e = .returned (.bool true) ∧ Below w.heap.size w w1 := by
  letI : Ev.Tok := ⟨fun i => if i = 0 then v else n, fun i => if i = 0 then s else keyB s⟩
  letI : Ev.Sym := Ev.noSym
  have hr : ∀ r ∈ putRows, r.ok Tryz.prog := by
    intro r hr
    simp only [putRows, List.mem_cons, List.not_mem_nil, or_false] at hr
    rcases hr with rfl | rfl
    · exact c_lss (a := v) (b := 0) (decide_eq_false (by omega)) (fun _ => rfl) (fun _ => rfl)
    · exact c_gtr (a := v) (b := 1099511627776) (decide_eq_false (by omega)) (fun _ => rfl) (fun _ => rfl)
  have ho : ∀ r ∈ gOracle, r.ok Tryz.prog := by
    intro r hr
    simp only [gOracle, List.mem_cons, List.not_mem_nil, or_false] at hr
    rcases hr with rfl | rfl
    · exact ⟨trivial, fun γ w => (right_any s w).mono fun e w' ⟨he, hw⟩ => ⟨by rw [he, h]; rfl, by rw [hw]; exact Below.refl _ _⟩⟩
    · exact ⟨trivial, fun γ w => (key_any s w).mono fun e w' ⟨he, hw⟩ => ⟨by rw [he]; rfl, by rw [hw]; exact Below.refl _ _⟩⟩
  exact @Ev.calls_true_args _ (Ev.tabSym putRows [] []) Tryz.prog _ (Ev.tabSym_ok hr (by simp) (by simp)) (Ev.orcOf_ok ho (by simp) (by simp)) mixed 8000 9 [.agg #[num 2, .float .f64 0, .string ⟨#[]⟩, tk 0], tk 1] (by simp [Ev.Wf, Ev.WfL, num, tk]) (fastS (Ev.tabSym putRows [] []) rput_ev) w
def dropRows : List Ev.BRow := []
theorem drop_ev : Ev.isNew (@Ev.runF (Ev.tabSym dropRows [] []) Tryz.prog (Ev.orcOf gOracle [] []) 4000 (.fn 7 [.agg #[num 3, .float .f64 0, .string ⟨#[]⟩, num 0], num 65536, num 1] Ev.st0)) = true := by kernel_rfl
theorem rdrop_ev : Ev.isTrue (@Ev.runF (Ev.tabSym dropRows [] []) Tryz.prog (Ev.orcOf gOracle [] []) 8000 (.fn 9 [.agg #[num 3, .float .f64 0, .string ⟨#[]⟩, num 0], tk 1] Ev.st0)) = true := by kernel_rfl
theorem dropNew_ok (s : ByteArray) (h : rightL s.data.toList = true) (w : World) : Calls Tryz.prog 7 #[opV 3 s ⟨#[]⟩ 0, .int .i64 65536, .int .i64 1] w (NewR 0 w) := by
  letI : Ev.Tok := ⟨fun i => 0, fun i => if i = 0 then s else keyB s⟩
  letI : Ev.Sym := Ev.noSym
  have hr : ∀ r ∈ dropRows, r.ok Tryz.prog := by
    simp [dropRows]
  have ho : ∀ r ∈ gOracle, r.ok Tryz.prog := by
    intro r hr
    simp only [gOracle, List.mem_cons, List.not_mem_nil, or_false] at hr
    rcases hr with rfl | rfl
    · exact ⟨trivial, fun γ w => (right_any s w).mono fun e w' ⟨he, hw⟩ => ⟨by rw [he, h]; rfl, by rw [hw]; exact Below.refl _ _⟩⟩
    · exact ⟨trivial, fun γ w => (key_any s w).mono fun e w' ⟨he, hw⟩ => ⟨by rw [he]; rfl, by rw [hw]; exact Below.refl _ _⟩⟩
  refine (@Ev.calls_new _ (Ev.tabSym dropRows [] []) Tryz.prog _ (Ev.tabSym_ok hr (by simp) (by simp)) (Ev.orcOf_ok ho (by simp) (by simp)) mixed 4000 7 [.agg #[num 3, .float .f64 0, .string ⟨#[]⟩, num 0], num 65536, num 1] (by simp [Ev.Wf, Ev.WfL, num, tk]) drop_ev w).mono ?_
  rintro e w1 ⟨p, rfl, hb⟩
  exact ⟨some p, rfl, hb, fun h => by cases h⟩
theorem rdrop_ok (s : ByteArray) (h : rightL s.data.toList = true) (n : Int) (w : World) : Calls Tryz.prog 9 #[opV 3 s ⟨#[]⟩ 0, .int .i64 n] w fun e w1 => e = .returned (.bool true) ∧ Below w.heap.size w w1 := by
  letI : Ev.Tok := ⟨fun i => n, fun i => if i = 0 then s else keyB s⟩
  letI : Ev.Sym := Ev.noSym
  have hr : ∀ r ∈ dropRows, r.ok Tryz.prog := by
    simp [dropRows]
  have ho : ∀ r ∈ gOracle, r.ok Tryz.prog := by
    intro r hr
    simp only [gOracle, List.mem_cons, List.not_mem_nil, or_false] at hr
    rcases hr with rfl | rfl
    · exact ⟨trivial, fun γ w => (right_any s w).mono fun e w' ⟨he, hw⟩ => ⟨by rw [he, h]; rfl, by rw [hw]; exact Below.refl _ _⟩⟩
    · exact ⟨trivial, fun γ w => (key_any s w).mono fun e w' ⟨he, hw⟩ => ⟨by rw [he]; rfl, by rw [hw]; exact Below.refl _ _⟩⟩
  exact @Ev.calls_true_args _ (Ev.tabSym dropRows [] []) Tryz.prog _ (Ev.tabSym_ok hr (by simp) (by simp)) (Ev.orcOf_ok ho (by simp) (by simp)) mixed 8000 9 [.agg #[num 3, .float .f64 0, .string ⟨#[]⟩, num 0], tk 1] (by simp [Ev.Wf, Ev.WfL, num, tk]) (fastS (Ev.tabSym dropRows [] []) rdrop_ev) w
def sRows : List Ev.BRow := [⟨.lss, tk 0, num 1, .bool false⟩, ⟨.gtr, tk 0, num 16, .bool false⟩, ⟨.gtr, tk 1, num 13, .bool false⟩, ⟨.gtr, tk 2, num 13, .bool false⟩]
@[reducible] noncomputable def sSym : Ev.Sym := ⟨Ev.lookB sRows, Ev.lookU [], Ev.lookC [], fun v => match v with | .float _ 0 => some (tk 1) | .float _ 1 => some (tk 2) | _ => none⟩
theorem scan_ev : Ev.isNew (@Ev.runF sSym Tryz.prog (Ev.orcOf [] [] []) 4000 (.fn 5 [.agg #[num 4, .float .f64 0, .float .f64 1, tk 0], num 65536] Ev.st0)) = true := by kernel_rfl
theorem rscan_ev : Ev.isTrue (@Ev.runF sSym Tryz.prog (Ev.orcOf [] [] []) 8000 (.fn 9 [.agg #[num 4, .float .f64 0, .float .f64 1, tk 0], tk 3] Ev.st0)) = true := by kernel_rfl
theorem scanNew_ok (s t : ByteArray) (v : Int) (h1 : 1 ≤ v) (h2 : v ≤ 16) (h3 : s.size ≤ 13) (h4 : t.size ≤ 13) (n : Int) (w : World) : Calls Tryz.prog 5 #[opV 4 s t v, .int .i64 65536] w (NewR 0 w) := by
  letI : Ev.Tok := ⟨fun i => match i with | 0 => v | 1 => (s.size : Nat) | 2 => (t.size : Nat) | _ => n, fun i => if i = 0 then s else t⟩
  letI : Ev.Sym := Ev.noSym
  have hr : ∀ r ∈ sRows, r.ok Tryz.prog := by
    intro r hr
    simp only [sRows, List.mem_cons, List.not_mem_nil, or_false] at hr
    rcases hr with rfl | rfl | rfl | rfl
    · exact c_lss (a := v) (b := 1) (decide_eq_false (by omega)) (fun _ => rfl) (fun _ => rfl)
    · exact c_gtr (a := v) (b := 16) (decide_eq_false (by omega)) (fun _ => rfl) (fun _ => rfl)
    · exact c_gtr (a := (s.size : Nat)) (b := 13) (decide_eq_false (by omega)) (fun _ => rfl) (fun _ => rfl)
    · exact c_gtr (a := (t.size : Nat)) (b := 13) (decide_eq_false (by omega)) (fun _ => rfl) (fun _ => rfl)
  have hs : @Ev.SymOk _ sSym Tryz.prog := @Ev.SymOk.mk _ sSym Tryz.prog (Ev.lookB_ok _ hr) (Ev.lookU_ok _ (by simp)) (Ev.lookC_ok _ (by simp)) (by
    intro k i v' h
    match i, h with
    | 0, h => injection h with h; subst h; exact ⟨trivial, fun γ => rfl⟩
    | 1, h => injection h with h; subst h; exact ⟨trivial, fun γ => rfl⟩
    | i + 2, h => cases h)
  refine (@Ev.calls_new _ sSym Tryz.prog _ hs (Ev.orcOf_ok (by simp) (by simp) (by simp)) mixed 4000 5 [.agg #[num 4, .float .f64 0, .float .f64 1, tk 0], num 65536] (by simp [Ev.Wf, Ev.WfL, num, tk]) scan_ev w).mono ?_
  rintro e w1 ⟨p, rfl, hb⟩
  exact ⟨some p, rfl, hb, fun h => by cases h⟩
theorem rscan_ok (s t : ByteArray) (v : Int) (h1 : 1 ≤ v) (h2 : v ≤ 16) (h3 : s.size ≤ 13) (h4 : t.size ≤ 13) (n : Int) (w : World) : Calls Tryz.prog 9 #[opV 4 s t v, .int .i64 n] w fun e w1 => e = .returned (.bool true) ∧ Below w.heap.size w w1 := by
  letI : Ev.Tok := ⟨fun i => match i with | 0 => v | 1 => (s.size : Nat) | 2 => (t.size : Nat) | _ => n, fun i => if i = 0 then s else t⟩
  letI : Ev.Sym := Ev.noSym
  have hr : ∀ r ∈ sRows, r.ok Tryz.prog := by
    intro r hr
    simp only [sRows, List.mem_cons, List.not_mem_nil, or_false] at hr
    rcases hr with rfl | rfl | rfl | rfl
    · exact c_lss (a := v) (b := 1) (decide_eq_false (by omega)) (fun _ => rfl) (fun _ => rfl)
    · exact c_gtr (a := v) (b := 16) (decide_eq_false (by omega)) (fun _ => rfl) (fun _ => rfl)
    · exact c_gtr (a := (s.size : Nat)) (b := 13) (decide_eq_false (by omega)) (fun _ => rfl) (fun _ => rfl)
    · exact c_gtr (a := (t.size : Nat)) (b := 13) (decide_eq_false (by omega)) (fun _ => rfl) (fun _ => rfl)
  have hs : @Ev.SymOk _ sSym Tryz.prog := @Ev.SymOk.mk _ sSym Tryz.prog (Ev.lookB_ok _ hr) (Ev.lookU_ok _ (by simp)) (Ev.lookC_ok _ (by simp)) (by
    intro k i v' h
    match i, h with
    | 0, h => injection h with h; subst h; exact ⟨trivial, fun γ => rfl⟩
    | 1, h => injection h with h; subst h; exact ⟨trivial, fun γ => rfl⟩
    | i + 2, h => cases h)
  exact @Ev.calls_true_args _ sSym Tryz.prog _ hs (Ev.orcOf_ok (by simp) (by simp) (by simp)) mixed 8000 9 [.agg #[num 4, .float .f64 0, .float .f64 1, tk 0], tk 3] (by simp [Ev.Wf, Ev.WfL, num, tk]) (fastS sSym rscan_ev) w
def tRows : List Ev.BRow := [⟨.lss, tk 0, num 1, .bool false⟩, ⟨.gtr, tk 0, num 8, .bool false⟩]
theorem tick_ev : Ev.isNew (@Ev.runF (Ev.tabSym tRows [] []) Tryz.prog (Ev.orcOf [] [] []) 4000 (.fn 8 [.agg #[num 5, .string ⟨#[]⟩, .string ⟨#[]⟩, num 0], tk 0] Ev.st0)) = true := by kernel_rfl
theorem rtick_ev : Ev.isTrue (@Ev.runF (Ev.tabSym tRows [] []) Tryz.prog (Ev.orcOf [] [] []) 8000 (.fn 9 [.agg #[num 5, .string ⟨#[]⟩, .string ⟨#[]⟩, num 0], tk 0] Ev.st0)) = true := by kernel_rfl
theorem tRows_ok (n : Int) (h1 : 1 ≤ n) (h2 : n ≤ 8) : letI : Ev.Tok := ⟨fun _ => n, fun _ => ByteArray.empty⟩; ∀ r ∈ tRows, r.ok Tryz.prog := by
  letI : Ev.Tok := ⟨fun _ => n, fun _ => ByteArray.empty⟩
  letI : Ev.Sym := Ev.noSym
  intro r hr
  simp only [tRows, List.mem_cons, List.not_mem_nil, or_false] at hr
  rcases hr with rfl | rfl
  · exact c_lss (a := n) (b := 1) (decide_eq_false (by omega)) (fun _ => rfl) (fun _ => rfl)
  · exact c_gtr (a := n) (b := 8) (decide_eq_false (by omega)) (fun _ => rfl) (fun _ => rfl)
theorem tickNew_ok (n : Int) (h1 : 1 ≤ n) (h2 : n ≤ 8) (w : World) : Calls Tryz.prog 8 #[opV 5 ⟨#[]⟩ ⟨#[]⟩ 0, .int .i64 n] w (NewR 0 w) := by
  letI : Ev.Tok := ⟨fun _ => n, fun _ => ByteArray.empty⟩
  letI : Ev.Sym := Ev.noSym
  refine (@Ev.calls_new _ (Ev.tabSym tRows [] []) Tryz.prog (Ev.orcOf [] [] []) (Ev.tabSym_ok (tRows_ok n h1 h2) (by simp) (by simp)) (Ev.orcOf_ok (by simp) (by simp) (by simp)) mixed 4000 8 [.agg #[num 5, .string ⟨#[]⟩, .string ⟨#[]⟩, num 0], tk 0] (by simp [Ev.Wf, Ev.WfL, num, tk]) tick_ev w).mono ?_
  rintro e w1 ⟨p, rfl, hb⟩
  exact ⟨some p, rfl, hb, fun h => by cases h⟩
theorem rtick_ok (n : Int) (h1 : 1 ≤ n) (h2 : n ≤ 8) (w : World) : Calls Tryz.prog 9 #[opV 5 ⟨#[]⟩ ⟨#[]⟩ 0, .int .i64 n] w fun e w1 => e = .returned (.bool true) ∧ Below w.heap.size w w1 := by
  letI : Ev.Tok := ⟨fun _ => n, fun _ => ByteArray.empty⟩
  letI : Ev.Sym := Ev.noSym
  exact @Ev.calls_true_args _ (Ev.tabSym tRows [] []) Tryz.prog (Ev.orcOf [] [] []) (Ev.tabSym_ok (tRows_ok n h1 h2) (by simp) (by simp)) (Ev.orcOf_ok (by simp) (by simp) (by simp)) mixed 8000 9 [.agg #[num 5, .string ⟨#[]⟩, .string ⟨#[]⟩, num 0], tk 0] (by simp [Ev.Wf, Ev.WfL, num, tk]) (fastS (Ev.tabSym tRows [] []) rtick_ev) w
set_option maxHeartbeats 400000 in
theorem getNew_no (k : Int) (t u : ByteArray) (v r : Int) (w : World) (h : ¬ okG k t u v) : Calls Tryz.prog 4 #[opV k t u v, .int .i64 r] w (NewR 1 w) := by
  unfold opV
  go_enter Tryz.func4, Tryz.ntmps4
  have H : Hid (¬ okG k t u v) := h
  clear h
  cases hr : rightL t.data.toList
  all_goals have R := hr
  all_goals go_wp2_with (first
    | (go_at_call 11; refine (right_any _ _).mono ?_; rintro e w' ⟨rfl, rfl⟩; rw [R])
    | (go_at_call 12; fail)
    | go_in)
  all_goals first
    | (go_ret2; exact ⟨none, rfl, (Below.refl _ _).alloc (Nat.le_refl _) _, fun _ => rfl⟩)
    | (exact (H.out ⟨by assumption, by assumption, by assumption, by first | assumption | exact bne0 (by assumption)⟩).elim)
set_option maxHeartbeats 400000 in
theorem putNew_no (k : Int) (t u : ByteArray) (v r : Int) (w : World) (h : ¬ okP k t u v) : Calls Tryz.prog 6 #[opV k t u v, .int .i64 r, .int .i64 1] w (NewR 1 w) := by
  unfold opV
  go_enter Tryz.func6, Tryz.ntmps6
  have H : Hid (¬ okP k t u v) := h
  clear h
  cases hr : rightL t.data.toList
  all_goals have R := hr
  all_goals go_wp2_with (first
    | (go_at_call 11; refine (right_any _ _).mono ?_; rintro e w' ⟨rfl, rfl⟩; rw [R])
    | (go_at_call 12; fail)
    | go_in)
  all_goals first
    | (go_ret2; exact ⟨none, rfl, (Below.refl _ _).alloc (Nat.le_refl _) _, fun _ => rfl⟩)
    | (exact (H.out ⟨by assumption, by assumption, by omega, by omega, by assumption⟩).elim)
set_option maxHeartbeats 400000 in
theorem dropNew_no (k : Int) (t u : ByteArray) (v r : Int) (w : World) (h : ¬ okD k t u v) : Calls Tryz.prog 7 #[opV k t u v, .int .i64 r, .int .i64 1] w (NewR 1 w) := by
  unfold opV
  go_enter Tryz.func7, Tryz.ntmps7
  have H : Hid (¬ okD k t u v) := h
  clear h
  cases hr : rightL t.data.toList
  all_goals have R := hr
  all_goals go_wp2_with (first
    | (go_at_call 11; refine (right_any _ _).mono ?_; rintro e w' ⟨rfl, rfl⟩; rw [R])
    | (go_at_call 12; fail)
    | go_in)
  all_goals first
    | (go_ret2; exact ⟨none, rfl, (Below.refl _ _).alloc (Nat.le_refl _) _, fun _ => rfl⟩)
    | (exact (H.out ⟨by assumption, by assumption, by first | assumption | omega, by assumption⟩).elim)
set_option maxHeartbeats 400000 in
theorem scanNew_no (k : Int) (t u : ByteArray) (v r : Int) (w : World) (h : ¬ okS k t u v) : Calls Tryz.prog 5 #[opV k t u v, .int .i64 r] w (NewR 1 w) := by
  unfold opV
  go_enter Tryz.func5, Tryz.ntmps5
  have H : Hid (¬ okS k t u v) := h
  clear h
  go_wp2
  all_goals first
    | (go_ret2; exact ⟨none, rfl, (Below.refl _ _).alloc (Nat.le_refl _) _, fun _ => rfl⟩)
    | (exact (H.out ⟨by assumption, by omega, by omega, by omega, by omega⟩).elim)
set_option maxHeartbeats 400000 in
theorem tickNew_no (k : Int) (t u : ByteArray) (v n : Int) (w : World) (h : ¬ okT k t u v n) : Calls Tryz.prog 8 #[opV k t u v, .int .i64 n] w (NewR 1 w) := by
  unfold opV
  go_enter Tryz.func8, Tryz.ntmps8
  have H : Hid (¬ okT k t u v n) := h
  clear h
  go_wp2
  all_goals first
    | (go_ret2; exact ⟨none, rfl, (Below.refl _ _).alloc (Nat.le_refl _) _, fun _ => rfl⟩)
    | (exact (H.out ⟨by assumption, by assumption, by assumption, by assumption, by omega, by omega⟩).elim)
def oget : List Ev.ORow := [⟨4, [.agg #[num 1, .float .f64 0, .float .f64 1, tk 0], num 0], .tuple #[.pointer none, num 1]⟩]
theorem nget_ev : isVal (.bool false) (@Ev.runF Ev.noSym Tryz.prog (Ev.orcOf oget [] []) 8000 (.fn 9 [.agg #[num 1, .float .f64 0, .float .f64 1, tk 0], tk 1] Ev.st0)) = true := by kernel_rfl
theorem rget_no (t u : ByteArray) (v n : Int) (h : ¬ okG 1 t u v) (w : World) : Calls Tryz.prog 9 #[opV 1 t u v, .int .i64 n] w fun e w1 => e = .returned (.bool false) ∧ Below w.heap.size w w1 := by
  letI : Ev.Tok := ⟨fun i => if i = 0 then v else n, fun i => if i = 0 then t else u⟩
  letI : Ev.Sym := Ev.noSym
  have ho : ∀ r ∈ oget, r.ok Tryz.prog := by
    intro r hr
    simp only [oget, List.mem_cons, List.not_mem_nil, or_false] at hr
    subst hr
    refine ⟨by simp [Ev.Wf, Ev.WfL, num], fun γ w => (getNew_no 1 t u v 0 w h).mono fun e w' ⟨q, he, hw, hq⟩ => ?_⟩
    rw [hq rfl] at he
    exact ⟨he, hw⟩
  exact @calls_val _ Ev.noSym Tryz.prog _ (Ev.noSym_ok _) (Ev.orcOf_ok ho (by simp) (by simp)) mixed 8000 9 (.bool false) [.agg #[num 1, .float .f64 0, .float .f64 1, tk 0], tk 1] (fun γ => rfl) (by simp [Ev.Wf, Ev.WfL, num, tk]) nget_ev w
def oput : List Ev.ORow := [⟨6, [.agg #[num 2, .float .f64 0, .float .f64 1, tk 0], num 0, num 1], .tuple #[.pointer none, num 1]⟩]
theorem nput_ev : isVal (.bool false) (@Ev.runF Ev.noSym Tryz.prog (Ev.orcOf oput [] []) 8000 (.fn 9 [.agg #[num 2, .float .f64 0, .float .f64 1, tk 0], tk 1] Ev.st0)) = true := by kernel_rfl
theorem rput_no (t u : ByteArray) (v n : Int) (h : ¬ okP 2 t u v) (w : World) : Calls Tryz.prog 9 #[opV 2 t u v, .int .i64 n] w fun e w1 => e = .returned (.bool false) ∧ Below w.heap.size w w1 := by
  letI : Ev.Tok := ⟨fun i => if i = 0 then v else n, fun i => if i = 0 then t else u⟩
  letI : Ev.Sym := Ev.noSym
  have ho : ∀ r ∈ oput, r.ok Tryz.prog := by
    intro r hr
    simp only [oput, List.mem_cons, List.not_mem_nil, or_false] at hr
    subst hr
    refine ⟨by simp [Ev.Wf, Ev.WfL, num], fun γ w => (putNew_no 2 t u v 0 w h).mono fun e w' ⟨q, he, hw, hq⟩ => ?_⟩
    rw [hq rfl] at he
    exact ⟨he, hw⟩
  exact @calls_val _ Ev.noSym Tryz.prog _ (Ev.noSym_ok _) (Ev.orcOf_ok ho (by simp) (by simp)) mixed 8000 9 (.bool false) [.agg #[num 2, .float .f64 0, .float .f64 1, tk 0], tk 1] (fun γ => rfl) (by simp [Ev.Wf, Ev.WfL, num, tk]) nput_ev w
def odrop : List Ev.ORow := [⟨7, [.agg #[num 3, .float .f64 0, .float .f64 1, tk 0], num 0, num 1], .tuple #[.pointer none, num 1]⟩]
theorem ndrop_ev : isVal (.bool false) (@Ev.runF Ev.noSym Tryz.prog (Ev.orcOf odrop [] []) 8000 (.fn 9 [.agg #[num 3, .float .f64 0, .float .f64 1, tk 0], tk 1] Ev.st0)) = true := by kernel_rfl
theorem rdrop_no (t u : ByteArray) (v n : Int) (h : ¬ okD 3 t u v) (w : World) : Calls Tryz.prog 9 #[opV 3 t u v, .int .i64 n] w fun e w1 => e = .returned (.bool false) ∧ Below w.heap.size w w1 := by
  letI : Ev.Tok := ⟨fun i => if i = 0 then v else n, fun i => if i = 0 then t else u⟩
  letI : Ev.Sym := Ev.noSym
  have ho : ∀ r ∈ odrop, r.ok Tryz.prog := by
    intro r hr
    simp only [odrop, List.mem_cons, List.not_mem_nil, or_false] at hr
    subst hr
    refine ⟨by simp [Ev.Wf, Ev.WfL, num], fun γ w => (dropNew_no 3 t u v 0 w h).mono fun e w' ⟨q, he, hw, hq⟩ => ?_⟩
    rw [hq rfl] at he
    exact ⟨he, hw⟩
  exact @calls_val _ Ev.noSym Tryz.prog _ (Ev.noSym_ok _) (Ev.orcOf_ok ho (by simp) (by simp)) mixed 8000 9 (.bool false) [.agg #[num 3, .float .f64 0, .float .f64 1, tk 0], tk 1] (fun γ => rfl) (by simp [Ev.Wf, Ev.WfL, num, tk]) ndrop_ev w
def oscan : List Ev.ORow := [⟨5, [.agg #[num 4, .float .f64 0, .float .f64 1, tk 0], num 0], .tuple #[.pointer none, num 1]⟩]
theorem nscan_ev : isVal (.bool false) (@Ev.runF Ev.noSym Tryz.prog (Ev.orcOf oscan [] []) 8000 (.fn 9 [.agg #[num 4, .float .f64 0, .float .f64 1, tk 0], tk 1] Ev.st0)) = true := by kernel_rfl
theorem rscan_no (t u : ByteArray) (v n : Int) (h : ¬ okS 4 t u v) (w : World) : Calls Tryz.prog 9 #[opV 4 t u v, .int .i64 n] w fun e w1 => e = .returned (.bool false) ∧ Below w.heap.size w w1 := by
  letI : Ev.Tok := ⟨fun i => if i = 0 then v else n, fun i => if i = 0 then t else u⟩
  letI : Ev.Sym := Ev.noSym
  have ho : ∀ r ∈ oscan, r.ok Tryz.prog := by
    intro r hr
    simp only [oscan, List.mem_cons, List.not_mem_nil, or_false] at hr
    subst hr
    refine ⟨by simp [Ev.Wf, Ev.WfL, num], fun γ w => (scanNew_no 4 t u v 0 w h).mono fun e w' ⟨q, he, hw, hq⟩ => ?_⟩
    rw [hq rfl] at he
    exact ⟨he, hw⟩
  exact @calls_val _ Ev.noSym Tryz.prog _ (Ev.noSym_ok _) (Ev.orcOf_ok ho (by simp) (by simp)) mixed 8000 9 (.bool false) [.agg #[num 4, .float .f64 0, .float .f64 1, tk 0], tk 1] (fun γ => rfl) (by simp [Ev.Wf, Ev.WfL, num, tk]) nscan_ev w
def otick : List Ev.ORow := [⟨8, [.agg #[num 5, .float .f64 0, .float .f64 1, tk 0], tk 1], .tuple #[.pointer none, num 1]⟩]
theorem ntick_ev : isVal (.bool false) (@Ev.runF Ev.noSym Tryz.prog (Ev.orcOf otick [] []) 8000 (.fn 9 [.agg #[num 5, .float .f64 0, .float .f64 1, tk 0], tk 1] Ev.st0)) = true := by kernel_rfl
theorem rtick_no (t u : ByteArray) (v n : Int) (h : ¬ okT 5 t u v n) (w : World) : Calls Tryz.prog 9 #[opV 5 t u v, .int .i64 n] w fun e w1 => e = .returned (.bool false) ∧ Below w.heap.size w w1 := by
  letI : Ev.Tok := ⟨fun i => if i = 0 then v else n, fun i => if i = 0 then t else u⟩
  letI : Ev.Sym := Ev.noSym
  have ho : ∀ r ∈ otick, r.ok Tryz.prog := by
    intro r hr
    simp only [otick, List.mem_cons, List.not_mem_nil, or_false] at hr
    subst hr
    refine ⟨by simp [Ev.Wf, Ev.WfL, num], fun γ w => (tickNew_no 5 t u v n w h).mono fun e w' ⟨q, he, hw, hq⟩ => ?_⟩
    rw [hq rfl] at he
    exact ⟨he, hw⟩
  exact @calls_val _ Ev.noSym Tryz.prog _ (Ev.noSym_ok _) (Ev.orcOf_ok ho (by simp) (by simp)) mixed 8000 9 (.bool false) [.agg #[num 5, .float .f64 0, .float .f64 1, tk 0], tk 1] (fun γ => rfl) (by simp [Ev.Wf, Ev.WfL, num, tk]) ntick_ev w
def xRows : List Ev.BRow := [⟨.eql, tk 2, num 1, .bool false⟩, ⟨.eql, tk 2, num 2, .bool false⟩, ⟨.eql, tk 2, num 3, .bool false⟩, ⟨.eql, tk 2, num 4, .bool false⟩, ⟨.eql, tk 2, num 5, .bool false⟩]
theorem nx_ev : isVal (.bool false) (@Ev.runF (Ev.tabSym xRows [] []) Tryz.prog (Ev.orcOf [] [] []) 8000 (.fn 9 [.agg #[tk 2, .float .f64 0, .float .f64 1, tk 0], tk 1] Ev.st0)) = true := by kernel_rfl
theorem rx_no (k : Int) (t u : ByteArray) (v n : Int) (h : k ≠ 1 ∧ k ≠ 2 ∧ k ≠ 3 ∧ k ≠ 4 ∧ k ≠ 5) (w : World) : Calls Tryz.prog 9 #[opV k t u v, .int .i64 n] w fun e w1 => e = .returned (.bool false) ∧ Below w.heap.size w w1 := by
  letI : Ev.Tok := ⟨fun i => match i with | 0 => v | 1 => n | _ => k, fun i => if i = 0 then t else u⟩
  letI : Ev.Sym := Ev.noSym
  have hr : ∀ r ∈ xRows, r.ok Tryz.prog := by
    intro r hr
    simp only [xRows, List.mem_cons, List.not_mem_nil, or_false] at hr
    rcases hr with rfl | rfl | rfl | rfl | rfl
    · exact c_eql (a := k) (b := 1) (by simp; omega) (fun _ => rfl) (fun _ => rfl)
    · exact c_eql (a := k) (b := 2) (by simp; omega) (fun _ => rfl) (fun _ => rfl)
    · exact c_eql (a := k) (b := 3) (by simp; omega) (fun _ => rfl) (fun _ => rfl)
    · exact c_eql (a := k) (b := 4) (by simp; omega) (fun _ => rfl) (fun _ => rfl)
    · exact c_eql (a := k) (b := 5) (by simp; omega) (fun _ => rfl) (fun _ => rfl)
  exact @calls_val _ (Ev.tabSym xRows [] []) Tryz.prog _ (Ev.tabSym_ok hr (by simp) (by simp)) (Ev.orcOf_ok (by simp) (by simp) (by simp)) mixed 8000 9 (.bool false) [.agg #[tk 2, .float .f64 0, .float .f64 1, tk 0], tk 1] (fun γ => rfl) (by simp [Ev.Wf, Ev.WfL, num, tk]) nx_ev w
end Go.Proofs.YtbgokkodaglklaaGreat
