/-
  What a poisoned slot is, told by the law's own reckoning: reckoned by a verified evaluator; no condition.
-/
import Derived.Test.YtjhkgjcgaeljkaaGreatEvS
import Derived.Test.YtjhkgjcgaeljkaaGreatIns
import Derived.Test.YtjhkgjcgaeljkaaGreatBase
namespace Go.Proofs.YtjhkgjcgaeljkaaGreat
open Go Go.RowKit
set_option maxRecDepth 1000000
set_option linter.all false
noncomputable def orc0 : Ev.Orc := Ev.orcOf [] insL delL
theorem orc0_ok [Ev.Tok] : letI : Ev.Sym := Ev.noSym; Ev.OrcOk Tryz.prog orc0 := by
  letI : Ev.Sym := Ev.noSym
  exact Ev.orcOf_ok (by simp) insL_ok delL_ok
noncomputable def orcA : Ev.Orc := orc0
theorem orcA_ok [Ev.Tok] : letI : Ev.Sym := Ev.noSym; Ev.OrcOk Tryz.prog orcA := orc0_ok
noncomputable def p0_l0 : List Ev.NO := []
noncomputable def p0_chg : List (Nat × Ev.NO) := []
noncomputable def p0_nw0 : List Ev.NO := [
  ⟨0, 39, 1, true, false, List.replicate 8 (.int .u64 16045690984833335023)⟩]
noncomputable def p0_nw : List Ev.NO := p0_nw0
noncomputable def p0_pa : List (Nat × Nat × Nat) := []
noncomputable def p0_pl : List (Nat × Nat × Nat × Nat) := []
noncomputable def p0_m : Ev.SMemo := ⟨106, [.int .i64 0], p0_l0, p0_pa, p0_pl, .slice (some ⟨0, 0, none⟩) 8 8, p0_chg, p0_nw⟩
noncomputable def p0_srcT : Ev.Tr Nat := (.node 0 .leaf .leaf)
noncomputable def p0_invT : Ev.Tr Nat := (.node 0 .leaf .leaf)
theorem p0_chk : Ev.chkEnd p0_m (Ev.Tr.get 0 p0_srcT) (Ev.Tr.get 0 p0_invT) (@Ev.runF Ev.noSym Tryz.prog orcA 400000 (.fn p0_m.g (Ev.mapBL (fun i => 0 + i) p0_m.args) (Ev.layAll Ev.st0 p0_m.l0))) = true := by kernel_rfl
theorem p0_sok [Ev.Tok] : letI : Ev.Sym := Ev.noSym; Ev.SOk Tryz.prog p0_m := by
  letI : Ev.Sym := Ev.noSym
  exact Ev.smemo_sok (Ev.noSym_ok _) orcA_ok mixed p0_chk
noncomputable def p1_l0 : List Ev.NO := []
noncomputable def p1_chg : List (Nat × Ev.NO) := []
noncomputable def p1_nw0 : List Ev.NO := [
  ⟨0, 39, 1, true, false, List.replicate 12 (.int .u64 16045690984833335023)⟩]
noncomputable def p1_nw : List Ev.NO := p1_nw0
noncomputable def p1_pa : List (Nat × Nat × Nat) := []
noncomputable def p1_pl : List (Nat × Nat × Nat × Nat) := []
noncomputable def p1_m : Ev.SMemo := ⟨106, [.int .i64 1], p1_l0, p1_pa, p1_pl, .slice (some ⟨0, 0, none⟩) 12 12, p1_chg, p1_nw⟩
noncomputable def p1_srcT : Ev.Tr Nat := (.node 0 .leaf .leaf)
noncomputable def p1_invT : Ev.Tr Nat := (.node 0 .leaf .leaf)
theorem p1_chk : Ev.chkEnd p1_m (Ev.Tr.get 0 p1_srcT) (Ev.Tr.get 0 p1_invT) (@Ev.runF Ev.noSym Tryz.prog orcA 400000 (.fn p1_m.g (Ev.mapBL (fun i => 0 + i) p1_m.args) (Ev.layAll Ev.st0 p1_m.l0))) = true := by kernel_rfl
theorem p1_sok [Ev.Tok] : letI : Ev.Sym := Ev.noSym; Ev.SOk Tryz.prog p1_m := by
  letI : Ev.Sym := Ev.noSym
  exact Ev.smemo_sok (Ev.noSym_ok _) orcA_ok mixed p1_chk
noncomputable def p2_l0 : List Ev.NO := []
noncomputable def p2_chg : List (Nat × Ev.NO) := []
noncomputable def p2_nw0 : List Ev.NO := [
  ⟨0, 39, 1, true, false, List.replicate 24 (.int .u64 16045690984833335023)⟩]
noncomputable def p2_nw : List Ev.NO := p2_nw0
noncomputable def p2_pa : List (Nat × Nat × Nat) := []
noncomputable def p2_pl : List (Nat × Nat × Nat × Nat) := []
noncomputable def p2_m : Ev.SMemo := ⟨106, [.int .i64 2], p2_l0, p2_pa, p2_pl, .slice (some ⟨0, 0, none⟩) 24 24, p2_chg, p2_nw⟩
noncomputable def p2_srcT : Ev.Tr Nat := (.node 0 .leaf .leaf)
noncomputable def p2_invT : Ev.Tr Nat := (.node 0 .leaf .leaf)
theorem p2_chk : Ev.chkEnd p2_m (Ev.Tr.get 0 p2_srcT) (Ev.Tr.get 0 p2_invT) (@Ev.runF Ev.noSym Tryz.prog orcA 400000 (.fn p2_m.g (Ev.mapBL (fun i => 0 + i) p2_m.args) (Ev.layAll Ev.st0 p2_m.l0))) = true := by kernel_rfl
theorem p2_sok [Ev.Tok] : letI : Ev.Sym := Ev.noSym; Ev.SOk Tryz.prog p2_m := by
  letI : Ev.Sym := Ev.noSym
  exact Ev.smemo_sok (Ev.noSym_ok _) orcA_ok mixed p2_chk
noncomputable def p3_l0 : List Ev.NO := []
noncomputable def p3_chg : List (Nat × Ev.NO) := []
noncomputable def p3_nw0 : List Ev.NO := [
  ⟨0, 39, 1, true, false, List.replicate 88 (.int .u64 16045690984833335023)⟩]
noncomputable def p3_nw : List Ev.NO := p3_nw0
noncomputable def p3_pa : List (Nat × Nat × Nat) := []
noncomputable def p3_pl : List (Nat × Nat × Nat × Nat) := []
noncomputable def p3_m : Ev.SMemo := ⟨106, [.int .i64 3], p3_l0, p3_pa, p3_pl, .slice (some ⟨0, 0, none⟩) 88 88, p3_chg, p3_nw⟩
noncomputable def p3_srcT : Ev.Tr Nat := (.node 0 .leaf .leaf)
noncomputable def p3_invT : Ev.Tr Nat := (.node 0 .leaf .leaf)
theorem p3_chk : Ev.chkEnd p3_m (Ev.Tr.get 0 p3_srcT) (Ev.Tr.get 0 p3_invT) (@Ev.runF Ev.noSym Tryz.prog orcA 400000 (.fn p3_m.g (Ev.mapBL (fun i => 0 + i) p3_m.args) (Ev.layAll Ev.st0 p3_m.l0))) = true := by kernel_rfl
theorem p3_sok [Ev.Tok] : letI : Ev.Sym := Ev.noSym; Ev.SOk Tryz.prog p3_m := by
  letI : Ev.Sym := Ev.noSym
  exact Ev.smemo_sok (Ev.noSym_ok _) orcA_ok mixed p3_chk
noncomputable def p4_l0 : List Ev.NO := []
noncomputable def p4_chg : List (Nat × Ev.NO) := []
noncomputable def p4_nw0 : List Ev.NO := [
  ⟨0, 39, 1, true, false, List.replicate 264 (.int .u64 16045690984833335023)⟩]
noncomputable def p4_nw : List Ev.NO := p4_nw0
noncomputable def p4_pa : List (Nat × Nat × Nat) := []
noncomputable def p4_pl : List (Nat × Nat × Nat × Nat) := []
noncomputable def p4_m : Ev.SMemo := ⟨106, [.int .i64 4], p4_l0, p4_pa, p4_pl, .slice (some ⟨0, 0, none⟩) 264 264, p4_chg, p4_nw⟩
noncomputable def p4_srcT : Ev.Tr Nat := (.node 0 .leaf .leaf)
noncomputable def p4_invT : Ev.Tr Nat := (.node 0 .leaf .leaf)
theorem p4_chk : Ev.chkEnd p4_m (Ev.Tr.get 0 p4_srcT) (Ev.Tr.get 0 p4_invT) (@Ev.runF Ev.noSym Tryz.prog orcA 400000 (.fn p4_m.g (Ev.mapBL (fun i => 0 + i) p4_m.args) (Ev.layAll Ev.st0 p4_m.l0))) = true := by kernel_rfl
theorem p4_sok [Ev.Tok] : letI : Ev.Sym := Ev.noSym; Ev.SOk Tryz.prog p4_m := by
  letI : Ev.Sym := Ev.noSym
  exact Ev.smemo_sok (Ev.noSym_ok _) orcA_ok mixed p4_chk
end Go.Proofs.YtjhkgjcgaeljkaaGreat
