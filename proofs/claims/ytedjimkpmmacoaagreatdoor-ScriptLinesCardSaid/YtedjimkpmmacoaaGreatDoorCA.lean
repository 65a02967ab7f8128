/-
  What two nodes' words tell: reckoned by a verified evaluator; no condition.
-/
import Derived.Test.YtedjimkpmmacoaaGreatDoorEvS
import Derived.Test.YtedjimkpmmacoaaGreatDoorIns
import Derived.Test.YtedjimkpmmacoaaGreatDoorBase
namespace Go.Proofs.YtedjimkpmmacoaaGreatDoor
open Go Go.RowKit
set_option maxRecDepth 1000000
set_option linter.all false
noncomputable def orc0 : Ev.Orc := Ev.orcOf [] insL delL
theorem orc0_ok [Ev.Tok] : letI : Ev.Sym := Ev.noSym; Ev.OrcOk Tryz.prog orc0 := by
  letI : Ev.Sym := Ev.noSym
  exact Ev.orcOf_ok (by simp) insL_ok delL_ok
noncomputable def orcA : Ev.Orc := orc0
theorem orcA_ok [Ev.Tok] : letI : Ev.Sym := Ev.noSym; Ev.OrcOk Tryz.prog orcA := orc0_ok
noncomputable def dec_l00 : List Ev.NO := [
  ⟨0, 110, 1, true, false, [.int .u64 4, .int .u64 65540] ++ List.replicate 99 (.int .u64 0) ++ [.int .u64 281474976776192] ++ List.replicate 162 (.int .u64 0)⟩]
noncomputable def dec_l0 : List Ev.NO := dec_l00
noncomputable def dec_chg : List (Nat × Ev.NO) := []
noncomputable def dec_nw0 : List Ev.NO := [
  ⟨5, 5, 1, true, true, [.int .u8 97]⟩,
  ⟨7, 3, 1, true, true, [.int .i64 281474976776192]⟩]
noncomputable def dec_nw : List Ev.NO := dec_nw0
noncomputable def dec_pa : List (Nat × Nat × Nat) := [(0, 0, 0)]
noncomputable def dec_pl : List (Nat × Nat × Nat × Nat) := []
noncomputable def dec_m : Ev.SMemo := ⟨103, [.slice (some ⟨0, 0, none⟩) 264 264], dec_l0, dec_pa, dec_pl, .tuple #[.agg #[.int .i64 4, .int .u64 4, .string ⟨#[]⟩, .slice (some ⟨1, 0, none⟩) 1 1, .slice (some ⟨2, 0, none⟩) 1 1], .bool true], dec_chg, dec_nw⟩
noncomputable def dec_srcT : Ev.Tr Nat := (.node 0 (.node 5 .leaf .leaf) (.node 7 .leaf .leaf))
noncomputable def dec_invT : Ev.Tr Nat := (.node 0 (.node 0 (.node 0 (.node 2 .leaf .leaf) .leaf) (.node 1 .leaf .leaf)) .leaf)
theorem dec_chk : Ev.chkEnd dec_m (Ev.Tr.get 0 dec_srcT) (Ev.Tr.get 0 dec_invT) (@Ev.runF Ev.noSym Tryz.prog orcA 400000 (.fn dec_m.g (Ev.mapBL (fun i => 0 + i) dec_m.args) (Ev.layAll Ev.st0 dec_m.l0))) = true := by kernel_rfl
theorem dec_sok [Ev.Tok] : letI : Ev.Sym := Ev.noSym; Ev.SOk Tryz.prog dec_m := by
  letI : Ev.Sym := Ev.noSym
  exact Ev.smemo_sok (Ev.noSym_ok _) orcA_ok mixed dec_chk
noncomputable def dec0_l00 : List Ev.NO := [
  ⟨0, 110, 1, true, false, [.int .u64 0, .int .u64 4] ++ List.replicate 262 (.int .u64 0)⟩]
noncomputable def dec0_l0 : List Ev.NO := dec0_l00
noncomputable def dec0_chg : List (Nat × Ev.NO) := []
noncomputable def dec0_nw : List Ev.NO := []
noncomputable def dec0_pa : List (Nat × Nat × Nat) := [(0, 0, 0)]
noncomputable def dec0_pl : List (Nat × Nat × Nat × Nat) := []
noncomputable def dec0_m : Ev.SMemo := ⟨103, [.slice (some ⟨0, 0, none⟩) 264 264], dec0_l0, dec0_pa, dec0_pl, .tuple #[.agg #[.int .i64 4, .int .u64 0, .string ⟨#[]⟩, .slice none 0 0, .slice none 0 0], .bool true], dec0_chg, dec0_nw⟩
noncomputable def dec0_srcT : Ev.Tr Nat := (.node 0 .leaf .leaf)
noncomputable def dec0_invT : Ev.Tr Nat := (.node 0 .leaf .leaf)
theorem dec0_chk : Ev.chkEnd dec0_m (Ev.Tr.get 0 dec0_srcT) (Ev.Tr.get 0 dec0_invT) (@Ev.runF Ev.noSym Tryz.prog orcA 400000 (.fn dec0_m.g (Ev.mapBL (fun i => 0 + i) dec0_m.args) (Ev.layAll Ev.st0 dec0_m.l0))) = true := by kernel_rfl
theorem dec0_sok [Ev.Tok] : letI : Ev.Sym := Ev.noSym; Ev.SOk Tryz.prog dec0_m := by
  letI : Ev.Sym := Ev.noSym
  exact Ev.smemo_sok (Ev.noSym_ok _) orcA_ok mixed dec0_chk
end Go.Proofs.YtedjimkpmmacoaaGreatDoor
