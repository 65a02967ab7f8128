/-
  What the script's new tree is: reckoned by a verified evaluator; no condition.
-/
import Derived.Test.YtedjimkpmmacoaaGreatDoorCA
namespace Go.Proofs.YtedjimkpmmacoaaGreatDoor
open Go Go.RowKit
set_option maxRecDepth 1000000
set_option linter.all false
noncomputable def s0_l00 : List Ev.NO := [
  ⟨0, 35, 4, true, true, [.int .i64 2, .string ⟨#[97]⟩, .string ⟨#[]⟩, .int .i64 1, .int .i64 1, .string ⟨#[97]⟩, .string ⟨#[]⟩, .int .i64 0]⟩,
  ⟨0, 36, 1, true, false, [.slice (some ⟨0, 0, none⟩) 2 2]⟩]
noncomputable def s0_l0 : List Ev.NO := s0_l00
noncomputable def s0_chg : List (Nat × Ev.NO) := []
noncomputable def s0_nw0 : List Ev.NO := [
  ⟨12, 110, 1, true, false, List.replicate 8 (.int .u64 16045690984833335023)⟩,
  ⟨18, 110, 1, true, false, List.replicate 8 (.int .u64 16045690984833335023)⟩,
  ⟨32, 110, 1, true, false, [.int .u64 0, .int .u64 4] ++ List.replicate 262 (.int .u64 0)⟩,
  ⟨5, 145, 4, true, false, [.int .i64 0, .int .i64 1, .bool false, .slice (some ⟨2, 0, none⟩) 8 8, .int .i64 0, .int .i64 1, .bool false, .slice (some ⟨3, 0, none⟩) 8 8, .int .i64 4, .int .i64 1, .bool true, .slice (some ⟨4, 0, none⟩) 264 264]⟩,
  ⟨16, 3, 1, true, true, [.int .i64 0, .int .i64 1]⟩,
  ⟨7, 4, 1, true, false, [.bool true, .bool true, .bool false]⟩,
  ⟨8, 193, 0, true, false, [.slice (some ⟨6, 0, none⟩) 2 2, .slice (some ⟨7, 0, none⟩) 3 3]⟩,
  ⟨21, 4, 1, true, false, [.bool false, .bool false, .bool false]⟩,
  ⟨22, 193, 0, true, false, [.slice none 0 0, .slice (some ⟨9, 0, none⟩) 3 3]⟩,
  ⟨23, 4, 1, true, false, [.bool false, .bool false, .bool false]⟩,
  ⟨24, 193, 0, true, false, [.slice none 0 0, .slice (some ⟨11, 0, none⟩) 3 3]⟩,
  ⟨25, 4, 1, true, false, [.bool false, .bool false, .bool false]⟩,
  ⟨26, 193, 0, true, false, [.slice none 0 0, .slice (some ⟨13, 0, none⟩) 3 3]⟩,
  ⟨30, 3, 1, true, true, [.int .i64 2]⟩,
  ⟨27, 4, 1, true, false, [.bool false, .bool false, .bool false]⟩,
  ⟨28, 193, 0, true, false, [.slice (some ⟨15, 0, none⟩) 0 1, .slice (some ⟨16, 0, none⟩) 3 3]⟩,
  ⟨6, 141, 0, true, false, [.slice (some ⟨5, 0, none⟩) 3 3, .pointer (some ⟨8, 0, none⟩), .pointer (some ⟨10, 0, none⟩), .pointer (some ⟨12, 0, none⟩), .pointer (some ⟨14, 0, none⟩), .pointer (some ⟨17, 0, none⟩)]⟩,
  ⟨35, 152, 2, true, false, [.int .i64 (-1), .slice none 0 0]⟩,
  ⟨36, 149, 0, true, false, [.int .i64 0, .int .i64 4, .slice (some ⟨19, 0, none⟩) 1 1]⟩,
  ⟨41, 114, 0, true, false, [.pointer (some ⟨18, 0, none⟩), .pointer (some ⟨20, 0, none⟩), .int .i64 65538, .int .i64 1, .int .i64 (-1)]⟩,
  ⟨68, 35, 4, true, true, [.int .i64 2, .string ⟨#[97]⟩, .string ⟨#[]⟩, .int .i64 1, .int .i64 1, .string ⟨#[97]⟩, .string ⟨#[]⟩, .int .i64 0]⟩,
  ⟨42, 87, 12, true, false, [.slice (some ⟨22, 0, none⟩) 2 2, .bool false, .int .i64 0, .string ⟨#[]⟩, .string ⟨#[]⟩, .int .i64 0, .nilFunc, .nilFunc, .nilFunc, .nilFunc, .int .i64 0, .int .i64 0]⟩,
  ⟨43, 78, 0, true, false, [.int .i64 2, .int .i64 0, .int .i64 0, .int .i64 0, .int .i64 1, .int .i64 1, .int .i64 4, .int .i64 3, .pointer (some ⟨21, 0, none⟩), .slice (some ⟨23, 0, none⟩) 1 1, .slice none 0 0, .slice none 0 0, .int .i64 0]⟩]
noncomputable def s0_nw : List Ev.NO := s0_nw0
noncomputable def s0_pa : List (Nat × Nat × Nat) := [(1, 0, 1)]
noncomputable def s0_pl : List (Nat × Nat × Nat × Nat) := [(1, 0, 0, 0)]
noncomputable def s0_m : Ev.SMemo := ⟨10, [.agg #[.int .i64 2, .int .i64 0, .int .i64 0, .int .i64 0, .int .i64 1, .int .i64 1, .int .i64 4, .int .i64 3], .slice (some ⟨1, 0, none⟩) 1 1], s0_l0, s0_pa, s0_pl, .tuple #[.pointer (some ⟨24, 0, none⟩), .int .i64 0], s0_chg, s0_nw⟩
noncomputable def s0_srcT : Ev.Tr Nat := (.node 0 (.node 1 (.node 18 (.node 7 (.node 30 .leaf .leaf) (.node 42 .leaf .leaf)) (.node 23 (.node 35 .leaf .leaf) .leaf)) (.node 5 (.node 21 (.node 28 .leaf .leaf) .leaf) (.node 25 (.node 41 .leaf .leaf) .leaf))) (.node 12 (.node 32 (.node 8 (.node 27 .leaf .leaf) (.node 43 .leaf .leaf)) (.node 24 (.node 36 .leaf .leaf) .leaf)) (.node 16 (.node 22 (.node 6 .leaf .leaf) .leaf) (.node 26 (.node 68 .leaf .leaf) .leaf))))
noncomputable def s0_invT : Ev.Tr Nat := (.node 0 (.node 1 (.node 0 (.node 7 .leaf (.node 11 .leaf .leaf)) (.node 0 (.node 0 (.node 19 .leaf .leaf) .leaf) (.node 16 (.node 24 .leaf .leaf) .leaf))) (.node 5 (.node 0 .leaf (.node 13 (.node 21 .leaf .leaf) .leaf)) (.node 0 (.node 9 .leaf .leaf) .leaf))) (.node 0 (.node 0 (.node 8 (.node 6 (.node 4 .leaf .leaf) .leaf) (.node 12 .leaf .leaf)) (.node 2 (.node 0 (.node 20 (.node 22 .leaf .leaf) .leaf) .leaf) (.node 17 .leaf .leaf))) (.node 18 (.node 0 (.node 3 .leaf .leaf) (.node 14 (.node 23 .leaf .leaf) .leaf)) (.node 0 (.node 10 .leaf .leaf) (.node 15 .leaf .leaf)))))
theorem s0_chk : Ev.chkEnd s0_m (Ev.Tr.get 0 s0_srcT) (Ev.Tr.get 0 s0_invT) (@Ev.runF Ev.noSym Tryz.prog orcA 400000 (.fn s0_m.g (Ev.mapBL (fun i => 0 + i) s0_m.args) (Ev.layAll Ev.st0 s0_m.l0))) = true := by kernel_rfl
theorem s0_sok [Ev.Tok] : letI : Ev.Sym := Ev.noSym; Ev.SOk Tryz.prog s0_m := by
  letI : Ev.Sym := Ev.noSym
  exact Ev.smemo_sok (Ev.noSym_ok _) orcA_ok mixed s0_chk
end Go.Proofs.YtedjimkpmmacoaaGreatDoor
