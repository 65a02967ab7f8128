/-
  What a new arena is, told by the law's own reckoning: reckoned by a verified evaluator; no condition.
-/
import Derived.Test.YtcjojppgehahjaaGreatEvM
import Derived.Test.YtcjojppgehahjaaGreatIns
import Derived.Test.YtcjojppgehahjaaGreatBase
namespace Go.Proofs.YtcjojppgehahjaaGreat
open Go Go.RowKit
set_option maxRecDepth 1000000
set_option linter.all false
def p0_l0 : List Ev.NO := [
  ⟨0, 40, 1, true, false, List.replicate 8 (.int .u64 16045690984833335023)⟩]
def p0_l : List Ev.NO := p0_l0
def p0_v : Value := .slice (some ⟨0, 0, none⟩) 8 8
def p0_srcT : Ev.Tr Nat := (.node 0 .leaf .leaf)
def p0_invT : Ev.Tr Nat := (.node 0 .leaf .leaf)

def p1_l0 : List Ev.NO := [
  ⟨0, 40, 1, true, false, List.replicate 12 (.int .u64 16045690984833335023)⟩]
def p1_l : List Ev.NO := p1_l0
def p1_v : Value := .slice (some ⟨0, 0, none⟩) 12 12
def p1_srcT : Ev.Tr Nat := (.node 0 .leaf .leaf)
def p1_invT : Ev.Tr Nat := (.node 0 .leaf .leaf)

def p2_l0 : List Ev.NO := [
  ⟨0, 40, 1, true, false, List.replicate 24 (.int .u64 16045690984833335023)⟩]
def p2_l : List Ev.NO := p2_l0
def p2_v : Value := .slice (some ⟨0, 0, none⟩) 24 24
def p2_srcT : Ev.Tr Nat := (.node 0 .leaf .leaf)
def p2_invT : Ev.Tr Nat := (.node 0 .leaf .leaf)

def p3_l0 : List Ev.NO := [
  ⟨0, 40, 1, true, false, List.replicate 88 (.int .u64 16045690984833335023)⟩]
def p3_l : List Ev.NO := p3_l0
def p3_v : Value := .slice (some ⟨0, 0, none⟩) 88 88
def p3_srcT : Ev.Tr Nat := (.node 0 .leaf .leaf)
def p3_invT : Ev.Tr Nat := (.node 0 .leaf .leaf)

def p4_l0 : List Ev.NO := [
  ⟨0, 40, 1, true, false, List.replicate 264 (.int .u64 16045690984833335023)⟩]
def p4_l : List Ev.NO := p4_l0
def p4_v : Value := .slice (some ⟨0, 0, none⟩) 264 264
def p4_srcT : Ev.Tr Nat := (.node 0 .leaf .leaf)
def p4_invT : Ev.Tr Nat := (.node 0 .leaf .leaf)

def slV : Value := .agg #[.int .i64 40, .int .i64 24, .int .i64 8, .int .i64 4, .int .i64 2]
def cfgV : Value := .agg #[.int .i64 40, .int .i64 24, .int .i64 8, .int .i64 4, .int .i64 2, .int .i64 4, .int .i64 8, .int .i64 1]
noncomputable def orc0 : Ev.Orc := Ev.orcOf [] insL delL
theorem orc0_ok [Ev.Tok] : letI : Ev.Sym := Ev.noSym; Ev.OrcOk Tryz.prog orc0 := by
  letI : Ev.Sym := Ev.noSym
  exact Ev.orcOf_ok (by simp) insL_ok delL_ok
theorem p0_chk : Ev.chkRun (Ev.Tr.get 0 p0_srcT) (Ev.Tr.get 0 p0_invT) p0_v p0_l (@Ev.runF Ev.noSym Tryz.prog orc0 400000 (.fn 114 [.int .i64 0] Ev.st0)) = true := by kernel_rfl
theorem p0_ok [Ev.Tok] : letI : Ev.Sym := Ev.noSym; ∀ B γ s w, Ev.R B γ s w → Calls Tryz.prog 114 (List.map (Ev.ren γ) [.int .i64 0]).toArray w (Ev.RetOk B γ s w (Ev.mapB (fun i => s.n + i) p0_v) (Ev.layAll s p0_l)) := by
  letI : Ev.Sym := Ev.noSym
  exact fun B γ s w hR => Ev.memo_ok (Ev.noSym_ok _) orc0_ok mixed (by simp [Ev.Wf]) p0_chk hR
theorem p1_chk : Ev.chkRun (Ev.Tr.get 0 p1_srcT) (Ev.Tr.get 0 p1_invT) p1_v p1_l (@Ev.runF Ev.noSym Tryz.prog orc0 400000 (.fn 114 [.int .i64 1] Ev.st0)) = true := by kernel_rfl
theorem p1_ok [Ev.Tok] : letI : Ev.Sym := Ev.noSym; ∀ B γ s w, Ev.R B γ s w → Calls Tryz.prog 114 (List.map (Ev.ren γ) [.int .i64 1]).toArray w (Ev.RetOk B γ s w (Ev.mapB (fun i => s.n + i) p1_v) (Ev.layAll s p1_l)) := by
  letI : Ev.Sym := Ev.noSym
  exact fun B γ s w hR => Ev.memo_ok (Ev.noSym_ok _) orc0_ok mixed (by simp [Ev.Wf]) p1_chk hR
theorem p2_chk : Ev.chkRun (Ev.Tr.get 0 p2_srcT) (Ev.Tr.get 0 p2_invT) p2_v p2_l (@Ev.runF Ev.noSym Tryz.prog orc0 400000 (.fn 114 [.int .i64 2] Ev.st0)) = true := by kernel_rfl
theorem p2_ok [Ev.Tok] : letI : Ev.Sym := Ev.noSym; ∀ B γ s w, Ev.R B γ s w → Calls Tryz.prog 114 (List.map (Ev.ren γ) [.int .i64 2]).toArray w (Ev.RetOk B γ s w (Ev.mapB (fun i => s.n + i) p2_v) (Ev.layAll s p2_l)) := by
  letI : Ev.Sym := Ev.noSym
  exact fun B γ s w hR => Ev.memo_ok (Ev.noSym_ok _) orc0_ok mixed (by simp [Ev.Wf]) p2_chk hR
theorem p3_chk : Ev.chkRun (Ev.Tr.get 0 p3_srcT) (Ev.Tr.get 0 p3_invT) p3_v p3_l (@Ev.runF Ev.noSym Tryz.prog orc0 400000 (.fn 114 [.int .i64 3] Ev.st0)) = true := by kernel_rfl
theorem p3_ok [Ev.Tok] : letI : Ev.Sym := Ev.noSym; ∀ B γ s w, Ev.R B γ s w → Calls Tryz.prog 114 (List.map (Ev.ren γ) [.int .i64 3]).toArray w (Ev.RetOk B γ s w (Ev.mapB (fun i => s.n + i) p3_v) (Ev.layAll s p3_l)) := by
  letI : Ev.Sym := Ev.noSym
  exact fun B γ s w hR => Ev.memo_ok (Ev.noSym_ok _) orc0_ok mixed (by simp [Ev.Wf]) p3_chk hR
theorem p4_chk : Ev.chkRun (Ev.Tr.get 0 p4_srcT) (Ev.Tr.get 0 p4_invT) p4_v p4_l (@Ev.runF Ev.noSym Tryz.prog orc0 400000 (.fn 114 [.int .i64 4] Ev.st0)) = true := by kernel_rfl
theorem p4_ok [Ev.Tok] : letI : Ev.Sym := Ev.noSym; ∀ B γ s w, Ev.R B γ s w → Calls Tryz.prog 114 (List.map (Ev.ren γ) [.int .i64 4]).toArray w (Ev.RetOk B γ s w (Ev.mapB (fun i => s.n + i) p4_v) (Ev.layAll s p4_l)) := by
  letI : Ev.Sym := Ev.noSym
  exact fun B γ s w hR => Ev.memo_ok (Ev.noSym_ok _) orc0_ok mixed (by simp [Ev.Wf]) p4_chk hR
noncomputable def poiL : List Ev.Memo := [⟨114, [.int .i64 0], p0_v, p0_l⟩, ⟨114, [.int .i64 1], p1_v, p1_l⟩, ⟨114, [.int .i64 2], p2_v, p2_l⟩, ⟨114, [.int .i64 3], p3_v, p3_l⟩, ⟨114, [.int .i64 4], p4_v, p4_l⟩]
theorem poiL_ok [Ev.Tok] : letI : Ev.Sym := Ev.noSym; Ev.OrcOk Tryz.prog (Ev.orcMemo poiL orc0) := by
  letI : Ev.Sym := Ev.noSym
  refine Ev.orcMemo_ok orc0_ok ?_
  intro m hm
  simp only [poiL, List.mem_cons, List.not_mem_nil, or_false] at hm
  rcases hm with rfl | rfl | rfl | rfl | rfl
  · exact p0_ok
  · exact p1_ok
  · exact p2_ok
  · exact p3_ok
  · exact p4_ok
def d52_l0 : List Ev.NO := [
  ⟨5, 40, 1, true, false, List.replicate 8 (.int .u64 16045690984833335023)⟩,
  ⟨12, 40, 1, true, false, List.replicate 8 (.int .u64 16045690984833335023)⟩,
  ⟨19, 40, 1, true, false, List.replicate 8 (.int .u64 16045690984833335023)⟩,
  ⟨26, 40, 1, true, false, List.replicate 8 (.int .u64 16045690984833335023)⟩,
  ⟨33, 40, 1, true, false, List.replicate 8 (.int .u64 16045690984833335023)⟩,
  ⟨40, 40, 1, true, false, List.replicate 8 (.int .u64 16045690984833335023)⟩,
  ⟨47, 40, 1, true, false, List.replicate 8 (.int .u64 16045690984833335023)⟩,
  ⟨54, 40, 1, true, false, List.replicate 8 (.int .u64 16045690984833335023)⟩,
  ⟨61, 40, 1, true, false, List.replicate 8 (.int .u64 16045690984833335023)⟩,
  ⟨68, 40, 1, true, false, List.replicate 8 (.int .u64 16045690984833335023)⟩,
  ⟨75, 40, 1, true, false, List.replicate 8 (.int .u64 16045690984833335023)⟩,
  ⟨82, 40, 1, true, false, List.replicate 8 (.int .u64 16045690984833335023)⟩,
  ⟨89, 40, 1, true, false, List.replicate 8 (.int .u64 16045690984833335023)⟩,
  ⟨96, 40, 1, true, false, List.replicate 8 (.int .u64 16045690984833335023)⟩,
  ⟨103, 40, 1, true, false, List.replicate 8 (.int .u64 16045690984833335023)⟩,
  ⟨110, 40, 1, true, false, List.replicate 8 (.int .u64 16045690984833335023)⟩,
  ⟨117, 40, 1, true, false, List.replicate 8 (.int .u64 16045690984833335023)⟩,
  ⟨124, 40, 1, true, false, List.replicate 8 (.int .u64 16045690984833335023)⟩,
  ⟨131, 40, 1, true, false, List.replicate 8 (.int .u64 16045690984833335023)⟩,
  ⟨138, 40, 1, true, false, List.replicate 8 (.int .u64 16045690984833335023)⟩,
  ⟨145, 40, 1, true, false, List.replicate 8 (.int .u64 16045690984833335023)⟩,
  ⟨152, 40, 1, true, false, List.replicate 8 (.int .u64 16045690984833335023)⟩,
  ⟨159, 40, 1, true, false, List.replicate 8 (.int .u64 16045690984833335023)⟩,
  ⟨166, 40, 1, true, false, List.replicate 8 (.int .u64 16045690984833335023)⟩,
  ⟨173, 40, 1, true, false, List.replicate 8 (.int .u64 16045690984833335023)⟩,
  ⟨180, 40, 1, true, false, List.replicate 8 (.int .u64 16045690984833335023)⟩,
  ⟨187, 40, 1, true, false, List.replicate 8 (.int .u64 16045690984833335023)⟩,
  ⟨194, 40, 1, true, false, List.replicate 8 (.int .u64 16045690984833335023)⟩,
  ⟨201, 40, 1, true, false, List.replicate 8 (.int .u64 16045690984833335023)⟩,
  ⟨208, 40, 1, true, false, List.replicate 8 (.int .u64 16045690984833335023)⟩,
  ⟨215, 40, 1, true, false, List.replicate 8 (.int .u64 16045690984833335023)⟩,
  ⟨222, 40, 1, true, false, List.replicate 8 (.int .u64 16045690984833335023)⟩,
  ⟨229, 40, 1, true, false, List.replicate 8 (.int .u64 16045690984833335023)⟩,
  ⟨236, 40, 1, true, false, List.replicate 8 (.int .u64 16045690984833335023)⟩,
  ⟨243, 40, 1, true, false, List.replicate 8 (.int .u64 16045690984833335023)⟩,
  ⟨250, 40, 1, true, false, List.replicate 8 (.int .u64 16045690984833335023)⟩,
  ⟨257, 40, 1, true, false, List.replicate 8 (.int .u64 16045690984833335023)⟩,
  ⟨264, 40, 1, true, false, List.replicate 8 (.int .u64 16045690984833335023)⟩,
  ⟨271, 40, 1, true, false, List.replicate 8 (.int .u64 16045690984833335023)⟩,
  ⟨278, 40, 1, true, false, List.replicate 8 (.int .u64 16045690984833335023)⟩,
  ⟨284, 40, 1, true, false, List.replicate 12 (.int .u64 16045690984833335023)⟩,
  ⟨291, 40, 1, true, false, List.replicate 12 (.int .u64 16045690984833335023)⟩,
  ⟨298, 40, 1, true, false, List.replicate 12 (.int .u64 16045690984833335023)⟩,
  ⟨305, 40, 1, true, false, List.replicate 12 (.int .u64 16045690984833335023)⟩,
  ⟨312, 40, 1, true, false, List.replicate 12 (.int .u64 16045690984833335023)⟩,
  ⟨319, 40, 1, true, false, List.replicate 12 (.int .u64 16045690984833335023)⟩,
  ⟨326, 40, 1, true, false, List.replicate 12 (.int .u64 16045690984833335023)⟩,
  ⟨333, 40, 1, true, false, List.replicate 12 (.int .u64 16045690984833335023)⟩,
  ⟨340, 40, 1, true, false, List.replicate 12 (.int .u64 16045690984833335023)⟩,
  ⟨347, 40, 1, true, false, List.replicate 12 (.int .u64 16045690984833335023)⟩,
  ⟨354, 40, 1, true, false, List.replicate 12 (.int .u64 16045690984833335023)⟩,
  ⟨361, 40, 1, true, false, List.replicate 12 (.int .u64 16045690984833335023)⟩,
  ⟨368, 40, 1, true, false, List.replicate 12 (.int .u64 16045690984833335023)⟩,
  ⟨375, 40, 1, true, false, List.replicate 12 (.int .u64 16045690984833335023)⟩,
  ⟨382, 40, 1, true, false, List.replicate 12 (.int .u64 16045690984833335023)⟩,
  ⟨389, 40, 1, true, false, List.replicate 12 (.int .u64 16045690984833335023)⟩,
  ⟨396, 40, 1, true, false, List.replicate 12 (.int .u64 16045690984833335023)⟩,
  ⟨403, 40, 1, true, false, List.replicate 12 (.int .u64 16045690984833335023)⟩,
  ⟨410, 40, 1, true, false, List.replicate 12 (.int .u64 16045690984833335023)⟩,
  ⟨417, 40, 1, true, false, List.replicate 12 (.int .u64 16045690984833335023)⟩]
def d52_l1 : List Ev.NO := [
  ⟨424, 40, 1, true, false, List.replicate 12 (.int .u64 16045690984833335023)⟩,
  ⟨431, 40, 1, true, false, List.replicate 12 (.int .u64 16045690984833335023)⟩,
  ⟨438, 40, 1, true, false, List.replicate 12 (.int .u64 16045690984833335023)⟩,
  ⟨445, 40, 1, true, false, List.replicate 12 (.int .u64 16045690984833335023)⟩,
  ⟨451, 40, 1, true, false, List.replicate 24 (.int .u64 16045690984833335023)⟩,
  ⟨458, 40, 1, true, false, List.replicate 24 (.int .u64 16045690984833335023)⟩,
  ⟨465, 40, 1, true, false, List.replicate 24 (.int .u64 16045690984833335023)⟩,
  ⟨472, 40, 1, true, false, List.replicate 24 (.int .u64 16045690984833335023)⟩,
  ⟨479, 40, 1, true, false, List.replicate 24 (.int .u64 16045690984833335023)⟩,
  ⟨486, 40, 1, true, false, List.replicate 24 (.int .u64 16045690984833335023)⟩,
  ⟨493, 40, 1, true, false, List.replicate 24 (.int .u64 16045690984833335023)⟩,
  ⟨500, 40, 1, true, false, List.replicate 24 (.int .u64 16045690984833335023)⟩,
  ⟨506, 40, 1, true, false, List.replicate 88 (.int .u64 16045690984833335023)⟩,
  ⟨513, 40, 1, true, false, List.replicate 88 (.int .u64 16045690984833335023)⟩,
  ⟨520, 40, 1, true, false, List.replicate 88 (.int .u64 16045690984833335023)⟩,
  ⟨527, 40, 1, true, false, List.replicate 88 (.int .u64 16045690984833335023)⟩,
  ⟨533, 40, 1, true, false, List.replicate 264 (.int .u64 16045690984833335023)⟩,
  ⟨540, 40, 1, true, false, List.replicate 264 (.int .u64 16045690984833335023)⟩,
  ⟨542, 209, 4, true, true, [.int .i64 0, .int .i64 1, .bool false, .slice (some ⟨0, 0, none⟩) 8 8, .int .i64 0, .int .i64 1, .bool false, .slice (some ⟨1, 0, none⟩) 8 8, .int .i64 0, .int .i64 1, .bool false, .slice (some ⟨2, 0, none⟩) 8 8, .int .i64 0, .int .i64 1, .bool false, .slice (some ⟨3, 0, none⟩) 8 8, .int .i64 0, .int .i64 1, .bool false, .slice (some ⟨4, 0, none⟩) 8 8, .int .i64 0, .int .i64 1, .bool false, .slice (some ⟨5, 0, none⟩) 8 8, .int .i64 0, .int .i64 1, .bool false, .slice (some ⟨6, 0, none⟩) 8 8, .int .i64 0, .int .i64 1, .bool false, .slice (some ⟨7, 0, none⟩) 8 8, .int .i64 0, .int .i64 1, .bool false, .slice (some ⟨8, 0, none⟩) 8 8, .int .i64 0, .int .i64 1, .bool false, .slice (some ⟨9, 0, none⟩) 8 8, .int .i64 0, .int .i64 1, .bool false, .slice (some ⟨10, 0, none⟩) 8 8, .int .i64 0, .int .i64 1, .bool false, .slice (some ⟨11, 0, none⟩) 8 8, .int .i64 0, .int .i64 1, .bool false, .slice (some ⟨12, 0, none⟩) 8 8, .int .i64 0, .int .i64 1, .bool false, .slice (some ⟨13, 0, none⟩) 8 8, .int .i64 0, .int .i64 1, .bool false, .slice (some ⟨14, 0, none⟩) 8 8, .int .i64 0, .int .i64 1, .bool false, .slice (some ⟨15, 0, none⟩) 8 8, .int .i64 0, .int .i64 1, .bool false, .slice (some ⟨16, 0, none⟩) 8 8, .int .i64 0, .int .i64 1, .bool false, .slice (some ⟨17, 0, none⟩) 8 8, .int .i64 0, .int .i64 1, .bool false, .slice (some ⟨18, 0, none⟩) 8 8, .int .i64 0, .int .i64 1, .bool false, .slice (some ⟨19, 0, none⟩) 8 8, .int .i64 0, .int .i64 1, .bool false, .slice (some ⟨20, 0, none⟩) 8 8, .int .i64 0, .int .i64 1, .bool false, .slice (some ⟨21, 0, none⟩) 8 8, .int .i64 0, .int .i64 1, .bool false, .slice (some ⟨22, 0, none⟩) 8 8, .int .i64 0, .int .i64 1, .bool false, .slice (some ⟨23, 0, none⟩) 8 8, .int .i64 0, .int .i64 1, .bool false, .slice (some ⟨24, 0, none⟩) 8 8, .int .i64 0, .int .i64 1, .bool false, .slice (some ⟨25, 0, none⟩) 8 8, .int .i64 0, .int .i64 1, .bool false, .slice (some ⟨26, 0, none⟩) 8 8, .int .i64 0, .int .i64 1, .bool false, .slice (some ⟨27, 0, none⟩) 8 8, .int .i64 0, .int .i64 1, .bool false, .slice (some ⟨28, 0, none⟩) 8 8, .int .i64 0, .int .i64 1, .bool false, .slice (some ⟨29, 0, none⟩) 8 8, .int .i64 0, .int .i64 1, .bool false, .slice (some ⟨30, 0, none⟩) 8 8, .int .i64 0, .int .i64 1, .bool false, .slice (some ⟨31, 0, none⟩) 8 8, .int .i64 0, .int .i64 1, .bool false, .slice (some ⟨32, 0, none⟩) 8 8, .int .i64 0, .int .i64 1, .bool false, .slice (some ⟨33, 0, none⟩) 8 8, .int .i64 0, .int .i64 1, .bool false, .slice (some ⟨34, 0, none⟩) 8 8, .int .i64 0, .int .i64 1, .bool false, .slice (some ⟨35, 0, none⟩) 8 8, .int .i64 0, .int .i64 1, .bool false, .slice (some ⟨36, 0, none⟩) 8 8, .int .i64 0, .int .i64 1, .bool false, .slice (some ⟨37, 0, none⟩) 8 8, .int .i64 0, .int .i64 1, .bool false, .slice (some ⟨38, 0, none⟩) 8 8, .int .i64 0, .int .i64 1, .bool false, .slice (some ⟨39, 0, none⟩) 8 8, .int .i64 1, .int .i64 1, .bool false, .slice (some ⟨40, 0, none⟩) 12 12, .int .i64 1, .int .i64 1, .bool false, .slice (some ⟨41, 0, none⟩) 12 12, .int .i64 1, .int .i64 1, .bool false, .slice (some ⟨42, 0, none⟩) 12 12, .int .i64 1, .int .i64 1, .bool false, .slice (some ⟨43, 0, none⟩) 12 12, .int .i64 1, .int .i64 1, .bool false, .slice (some ⟨44, 0, none⟩) 12 12, .int .i64 1, .int .i64 1, .bool false, .slice (some ⟨45, 0, none⟩) 12 12, .int .i64 1, .int .i64 1, .bool false, .slice (some ⟨46, 0, none⟩) 12 12, .int .i64 1, .int .i64 1, .bool false, .slice (some ⟨47, 0, none⟩) 12 12, .int .i64 1, .int .i64 1, .bool false, .slice (some ⟨48, 0, none⟩) 12 12, .int .i64 1, .int .i64 1, .bool false, .slice (some ⟨49, 0, none⟩) 12 12, .int .i64 1, .int .i64 1, .bool false, .slice (some ⟨50, 0, none⟩) 12 12, .int .i64 1, .int .i64 1, .bool false, .slice (some ⟨51, 0, none⟩) 12 12, .int .i64 1, .int .i64 1, .bool false, .slice (some ⟨52, 0, none⟩) 12 12, .int .i64 1, .int .i64 1, .bool false, .slice (some ⟨53, 0, none⟩) 12 12, .int .i64 1, .int .i64 1, .bool false, .slice (some ⟨54, 0, none⟩) 12 12, .int .i64 1, .int .i64 1, .bool false, .slice (some ⟨55, 0, none⟩) 12 12, .int .i64 1, .int .i64 1, .bool false, .slice (some ⟨56, 0, none⟩) 12 12, .int .i64 1, .int .i64 1, .bool false, .slice (some ⟨57, 0, none⟩) 12 12, .int .i64 1, .int .i64 1, .bool false, .slice (some ⟨58, 0, none⟩) 12 12, .int .i64 1, .int .i64 1, .bool false, .slice (some ⟨59, 0, none⟩) 12 12, .int .i64 1, .int .i64 1, .bool false, .slice (some ⟨60, 0, none⟩) 12 12, .int .i64 1, .int .i64 1, .bool false, .slice (some ⟨61, 0, none⟩) 12 12, .int .i64 1, .int .i64 1, .bool false, .slice (some ⟨62, 0, none⟩) 12 12, .int .i64 1, .int .i64 1, .bool false, .slice (some ⟨63, 0, none⟩) 12 12, .int .i64 2, .int .i64 1, .bool false, .slice (some ⟨64, 0, none⟩) 24 24, .int .i64 2, .int .i64 1, .bool false, .slice (some ⟨65, 0, none⟩) 24 24, .int .i64 2, .int .i64 1, .bool false, .slice (some ⟨66, 0, none⟩) 24 24, .int .i64 2, .int .i64 1, .bool false, .slice (some ⟨67, 0, none⟩) 24 24, .int .i64 2, .int .i64 1, .bool false, .slice (some ⟨68, 0, none⟩) 24 24, .int .i64 2, .int .i64 1, .bool false, .slice (some ⟨69, 0, none⟩) 24 24, .int .i64 2, .int .i64 1, .bool false, .slice (some ⟨70, 0, none⟩) 24 24, .int .i64 2, .int .i64 1, .bool false, .slice (some ⟨71, 0, none⟩) 24 24, .int .i64 3, .int .i64 1, .bool false, .slice (some ⟨72, 0, none⟩) 88 88, .int .i64 3, .int .i64 1, .bool false, .slice (some ⟨73, 0, none⟩) 88 88, .int .i64 3, .int .i64 1, .bool false, .slice (some ⟨74, 0, none⟩) 88 88, .int .i64 3, .int .i64 1, .bool false, .slice (some ⟨75, 0, none⟩) 88 88, .int .i64 4, .int .i64 1, .bool false, .slice (some ⟨76, 0, none⟩) 264 264, .int .i64 4, .int .i64 1, .bool false, .slice (some ⟨77, 0, none⟩) 264 264]⟩,
  ⟨277, 3, 1, true, true, [.int .i64 0, .int .i64 1, .int .i64 2, .int .i64 3, .int .i64 4, .int .i64 5, .int .i64 6, .int .i64 7, .int .i64 8, .int .i64 9, .int .i64 10, .int .i64 11, .int .i64 12, .int .i64 13, .int .i64 14, .int .i64 15, .int .i64 16, .int .i64 17, .int .i64 18, .int .i64 19, .int .i64 20, .int .i64 21, .int .i64 22, .int .i64 23, .int .i64 24, .int .i64 25, .int .i64 26, .int .i64 27, .int .i64 28, .int .i64 29, .int .i64 30, .int .i64 31, .int .i64 32, .int .i64 33, .int .i64 34, .int .i64 35, .int .i64 36, .int .i64 37, .int .i64 38, .int .i64 39]⟩,
  ⟨444, 3, 1, true, true, [.int .i64 40, .int .i64 41, .int .i64 42, .int .i64 43, .int .i64 44, .int .i64 45, .int .i64 46, .int .i64 47, .int .i64 48, .int .i64 49, .int .i64 50, .int .i64 51, .int .i64 52, .int .i64 53, .int .i64 54, .int .i64 55, .int .i64 56, .int .i64 57, .int .i64 58, .int .i64 59, .int .i64 60, .int .i64 61, .int .i64 62, .int .i64 63]⟩,
  ⟨499, 3, 1, true, true, [.int .i64 64, .int .i64 65, .int .i64 66, .int .i64 67, .int .i64 68, .int .i64 69, .int .i64 70, .int .i64 71]⟩,
  ⟨526, 3, 1, true, true, [.int .i64 72, .int .i64 73, .int .i64 74, .int .i64 75]⟩,
  ⟨539, 3, 1, true, true, [.int .i64 76, .int .i64 77]⟩,
  ⟨1, 206, 0, true, false, [.slice (some ⟨78, 0, none⟩) 78 78, .int .i64 78, .slice (some ⟨79, 0, none⟩) 40 40, .int .i64 78, .slice (some ⟨80, 0, none⟩) 24 24, .int .i64 78, .slice (some ⟨81, 0, none⟩) 8 8, .int .i64 78, .slice (some ⟨82, 0, none⟩) 4 4, .int .i64 78, .slice (some ⟨83, 0, none⟩) 2 2]⟩]
def d52_l : List Ev.NO := d52_l0 ++ d52_l1
def d52_v : Value := .tuple #[.pointer (some ⟨84, 0, none⟩), .int .i64 0]
def d52_srcT : Ev.Tr Nat := (.node 5 (.node 12 (.node 26 (.node 54 (.node 110 (.node 222 (.node 445 .leaf .leaf) .leaf) (.node 333 (.node 277 .leaf .leaf) .leaf)) (.node 166 (.node 278 (.node 500 .leaf .leaf) .leaf) (.node 389 .leaf .leaf))) (.node 82 (.node 138 (.node 250 (.node 472 .leaf .leaf) .leaf) (.node 361 (.node 539 .leaf .leaf) .leaf)) (.node 194 (.node 305 (.node 527 .leaf .leaf) .leaf) (.node 417 .leaf .leaf)))) (.node 40 (.node 68 (.node 124 (.node 236 (.node 458 .leaf .leaf) .leaf) (.node 347 (.node 499 .leaf .leaf) .leaf)) (.node 180 (.node 291 (.node 513 .leaf .leaf) .leaf) (.node 403 .leaf .leaf))) (.node 96 (.node 152 (.node 264 (.node 486 .leaf .leaf) .leaf) (.node 375 .leaf .leaf)) (.node 208 (.node 319 (.node 540 .leaf .leaf) .leaf) (.node 431 .leaf .leaf))))) (.node 19 (.node 33 (.node 61 (.node 117 (.node 229 (.node 451 .leaf .leaf) .leaf) (.node 340 (.node 444 .leaf .leaf) .leaf)) (.node 173 (.node 284 (.node 506 .leaf .leaf) .leaf) (.node 396 .leaf .leaf))) (.node 89 (.node 145 (.node 257 (.node 479 .leaf .leaf) .leaf) (.node 368 (.node 1 .leaf .leaf) .leaf)) (.node 201 (.node 312 (.node 533 .leaf .leaf) .leaf) (.node 424 .leaf .leaf)))) (.node 47 (.node 75 (.node 131 (.node 243 (.node 465 .leaf .leaf) .leaf) (.node 354 (.node 526 .leaf .leaf) .leaf)) (.node 187 (.node 298 (.node 520 .leaf .leaf) .leaf) (.node 410 .leaf .leaf))) (.node 103 (.node 159 (.node 271 (.node 493 .leaf .leaf) .leaf) (.node 382 .leaf .leaf)) (.node 215 (.node 326 (.node 542 .leaf .leaf) .leaf) (.node 438 .leaf .leaf))))))
def d52_invT : Ev.Tr Nat := (.node 0 (.node 84 (.node 0 (.node 0 (.node 0 (.node 0 (.node 0 .leaf (.node 0 (.node 45 .leaf .leaf) .leaf)) (.node 0 (.node 22 .leaf .leaf) (.node 0 .leaf (.node 68 .leaf .leaf)))) (.node 6 (.node 0 (.node 0 (.node 38 (.node 75 .leaf .leaf) .leaf) .leaf) .leaf) (.node 0 (.node 0 .leaf (.node 61 .leaf .leaf)) .leaf))) (.node 0 (.node 0 .leaf (.node 14 .leaf .leaf)) (.node 0 (.node 0 .leaf (.node 30 .leaf .leaf)) (.node 0 .leaf (.node 0 (.node 53 .leaf .leaf) .leaf))))) (.node 0 (.node 2 (.node 0 (.node 0 (.node 18 .leaf .leaf) (.node 0 .leaf (.node 64 .leaf .leaf))) (.node 0 (.node 0 (.node 41 .leaf .leaf) .leaf) .leaf)) (.node 0 (.node 0 (.node 0 .leaf (.node 57 .leaf .leaf)) .leaf) (.node 0 .leaf (.node 34 .leaf (.node 81 .leaf .leaf))))) (.node 0 (.node 0 (.node 10 .leaf .leaf) .leaf) (.node 0 (.node 0 (.node 0 (.node 0 (.node 83 .leaf .leaf) .leaf) .leaf) (.node 0 (.node 49 .leaf .leaf) .leaf)) (.node 0 (.node 26 .leaf .leaf) .leaf))))) (.node 0 (.node 0 (.node 0 (.node 4 (.node 0 (.node 0 (.node 36 (.node 73 .leaf .leaf) .leaf) .leaf) .leaf) (.node 0 (.node 0 .leaf (.node 59 .leaf .leaf)) .leaf)) (.node 0 (.node 0 (.node 20 .leaf .leaf) (.node 0 .leaf (.node 66 .leaf .leaf))) (.node 0 (.node 0 (.node 43 .leaf .leaf) .leaf) .leaf))) (.node 0 (.node 0 (.node 0 .leaf (.node 28 .leaf .leaf)) (.node 0 .leaf (.node 0 (.node 51 .leaf .leaf) .leaf))) (.node 0 (.node 12 .leaf .leaf) .leaf))) (.node 0 (.node 0 (.node 0 (.node 0 (.node 0 .leaf (.node 55 .leaf .leaf)) .leaf) (.node 0 .leaf (.node 32 .leaf .leaf))) (.node 0 (.node 0 (.node 0 (.node 79 (.node 76 .leaf .leaf) .leaf) .leaf) .leaf) (.node 16 .leaf .leaf))) (.node 0 (.node 0 (.node 0 .leaf (.node 0 (.node 47 .leaf .leaf) .leaf)) (.node 0 (.node 24 .leaf .leaf) (.node 0 .leaf (.node 70 .leaf .leaf)))) (.node 8 .leaf (.node 0 (.node 0 .leaf (.node 63 .leaf .leaf)) .leaf)))))) (.node 0 (.node 0 (.node 0 (.node 0 (.node 0 .leaf (.node 13 .leaf .leaf)) (.node 0 (.node 0 .leaf (.node 29 .leaf .leaf)) (.node 0 .leaf (.node 0 (.node 52 .leaf .leaf) .leaf)))) (.node 0 (.node 5 (.node 0 (.node 0 (.node 37 (.node 74 .leaf .leaf) .leaf) .leaf) .leaf) (.node 0 (.node 0 .leaf (.node 60 .leaf .leaf)) .leaf)) (.node 0 (.node 0 (.node 21 .leaf .leaf) (.node 0 .leaf (.node 67 .leaf .leaf))) (.node 0 (.node 0 (.node 44 .leaf .leaf) .leaf) .leaf)))) (.node 1 (.node 0 (.node 0 (.node 9 .leaf .leaf) .leaf) (.node 0 (.node 0 .leaf (.node 0 (.node 48 .leaf .leaf) .leaf)) (.node 0 (.node 25 .leaf .leaf) (.node 0 .leaf (.node 71 .leaf .leaf))))) (.node 0 (.node 0 (.node 0 (.node 0 .leaf (.node 56 .leaf .leaf)) .leaf) (.node 0 .leaf (.node 33 .leaf .leaf))) (.node 0 (.node 0 (.node 0 (.node 40 (.node 77 .leaf .leaf) .leaf) .leaf) .leaf) (.node 17 (.node 0 .leaf (.node 80 .leaf .leaf)) .leaf))))) (.node 0 (.node 0 (.node 0 (.node 0 (.node 0 .leaf (.node 27 .leaf .leaf)) (.node 0 .leaf (.node 0 (.node 50 .leaf .leaf) .leaf))) (.node 0 (.node 11 .leaf .leaf) .leaf)) (.node 3 (.node 0 (.node 0 (.node 19 .leaf .leaf) (.node 0 .leaf (.node 65 .leaf .leaf))) (.node 0 (.node 0 (.node 42 .leaf .leaf) .leaf) .leaf)) (.node 0 (.node 0 (.node 0 .leaf (.node 58 .leaf .leaf)) .leaf) (.node 0 .leaf (.node 35 .leaf (.node 72 .leaf .leaf)))))) (.node 0 (.node 0 (.node 0 (.node 0 .leaf (.node 0 (.node 46 .leaf .leaf) .leaf)) (.node 0 (.node 23 .leaf .leaf) (.node 0 .leaf (.node 69 .leaf .leaf)))) (.node 7 (.node 0 (.node 0 (.node 39 .leaf .leaf) .leaf) .leaf) (.node 0 (.node 0 .leaf (.node 62 .leaf .leaf)) .leaf))) (.node 0 (.node 0 (.node 0 (.node 0 (.node 0 (.node 82 .leaf .leaf) .leaf) .leaf) .leaf) (.node 15 .leaf .leaf)) (.node 0 (.node 0 (.node 0 (.node 0 (.node 78 .leaf .leaf) .leaf) .leaf) (.node 31 .leaf .leaf)) (.node 0 .leaf (.node 0 (.node 54 .leaf .leaf) .leaf))))))))

theorem d52_chk : Ev.chkRun (Ev.Tr.get 0 d52_srcT) (Ev.Tr.get 0 d52_invT) d52_v d52_l (@Ev.runF Ev.noSym Tryz.prog (Ev.orcMemo poiL orc0) 400000 (.fn 60 [slV] Ev.st0)) = true := by kernel_rfl
theorem d52_ok [Ev.Tok] : letI : Ev.Sym := Ev.noSym; ∀ B γ s w, Ev.R B γ s w → Calls Tryz.prog 60 (List.map (Ev.ren γ) [slV]).toArray w (Ev.RetOk B γ s w (Ev.mapB (fun i => s.n + i) d52_v) (Ev.layAll s d52_l)) := by
  letI : Ev.Sym := Ev.noSym
  exact fun B γ s w hR => Ev.memo_ok (Ev.noSym_ok _) poiL_ok mixed (by simp [slV, Ev.Wf, Ev.WfL]) d52_chk hR
end Go.Proofs.YtcjojppgehahjaaGreat
