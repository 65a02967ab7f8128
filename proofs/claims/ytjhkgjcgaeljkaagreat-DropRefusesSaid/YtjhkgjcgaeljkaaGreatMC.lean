/-
  What a new memory is, told by the law's own reckoning: reckoned by a verified evaluator; no condition.
-/
import Derived.Test.YtjhkgjcgaeljkaaGreatMB
namespace Go.Proofs.YtjhkgjcgaeljkaaGreat
open Go Go.RowKit
set_option maxRecDepth 1000000
set_option linter.all false
noncomputable def orcC : Ev.Orc := Ev.orcS orc0 [a53_m]
theorem orcC_ok [Ev.Tok] : letI : Ev.Sym := Ev.noSym; Ev.OrcOk Tryz.prog orcC := by
  letI : Ev.Sym := Ev.noSym
  refine Ev.orcS_ok orc0_ok _ ?_
  intro M hM
  simp only [List.mem_cons, List.not_mem_nil, or_false] at hM
  rcases hM with rfl
  · exact a53_sok
noncomputable def d31_l0 : List Ev.NO := []
noncomputable def d31_chg : List (Nat × Ev.NO) := []
noncomputable def d31_nw0 : List Ev.NO := [
  ⟨1, 39, 1, true, false, List.replicate 8 (.int .u64 16045690984833335023)⟩,
  ⟨2, 39, 1, true, false, List.replicate 8 (.int .u64 16045690984833335023)⟩,
  ⟨3, 39, 1, true, false, List.replicate 8 (.int .u64 16045690984833335023)⟩,
  ⟨4, 39, 1, true, false, List.replicate 8 (.int .u64 16045690984833335023)⟩,
  ⟨5, 39, 1, true, false, List.replicate 8 (.int .u64 16045690984833335023)⟩,
  ⟨6, 39, 1, true, false, List.replicate 8 (.int .u64 16045690984833335023)⟩,
  ⟨7, 39, 1, true, false, List.replicate 8 (.int .u64 16045690984833335023)⟩,
  ⟨8, 39, 1, true, false, List.replicate 8 (.int .u64 16045690984833335023)⟩,
  ⟨9, 39, 1, true, false, List.replicate 8 (.int .u64 16045690984833335023)⟩,
  ⟨10, 39, 1, true, false, List.replicate 8 (.int .u64 16045690984833335023)⟩,
  ⟨11, 39, 1, true, false, List.replicate 8 (.int .u64 16045690984833335023)⟩,
  ⟨12, 39, 1, true, false, List.replicate 8 (.int .u64 16045690984833335023)⟩,
  ⟨13, 39, 1, true, false, List.replicate 8 (.int .u64 16045690984833335023)⟩,
  ⟨14, 39, 1, true, false, List.replicate 8 (.int .u64 16045690984833335023)⟩,
  ⟨15, 39, 1, true, false, List.replicate 8 (.int .u64 16045690984833335023)⟩,
  ⟨16, 39, 1, true, false, List.replicate 8 (.int .u64 16045690984833335023)⟩,
  ⟨17, 39, 1, true, false, List.replicate 8 (.int .u64 16045690984833335023)⟩,
  ⟨18, 39, 1, true, false, List.replicate 8 (.int .u64 16045690984833335023)⟩,
  ⟨19, 39, 1, true, false, List.replicate 8 (.int .u64 16045690984833335023)⟩,
  ⟨20, 39, 1, true, false, List.replicate 8 (.int .u64 16045690984833335023)⟩,
  ⟨21, 39, 1, true, false, List.replicate 8 (.int .u64 16045690984833335023)⟩,
  ⟨22, 39, 1, true, false, List.replicate 8 (.int .u64 16045690984833335023)⟩,
  ⟨23, 39, 1, true, false, List.replicate 8 (.int .u64 16045690984833335023)⟩,
  ⟨24, 39, 1, true, false, List.replicate 8 (.int .u64 16045690984833335023)⟩,
  ⟨25, 39, 1, true, false, List.replicate 8 (.int .u64 16045690984833335023)⟩,
  ⟨26, 39, 1, true, false, List.replicate 8 (.int .u64 16045690984833335023)⟩,
  ⟨27, 39, 1, true, false, List.replicate 8 (.int .u64 16045690984833335023)⟩,
  ⟨28, 39, 1, true, false, List.replicate 8 (.int .u64 16045690984833335023)⟩,
  ⟨29, 39, 1, true, false, List.replicate 8 (.int .u64 16045690984833335023)⟩,
  ⟨30, 39, 1, true, false, List.replicate 8 (.int .u64 16045690984833335023)⟩,
  ⟨31, 39, 1, true, false, List.replicate 8 (.int .u64 16045690984833335023)⟩,
  ⟨32, 39, 1, true, false, List.replicate 8 (.int .u64 16045690984833335023)⟩,
  ⟨33, 39, 1, true, false, List.replicate 8 (.int .u64 16045690984833335023)⟩,
  ⟨34, 39, 1, true, false, List.replicate 8 (.int .u64 16045690984833335023)⟩,
  ⟨35, 39, 1, true, false, List.replicate 8 (.int .u64 16045690984833335023)⟩,
  ⟨36, 39, 1, true, false, List.replicate 8 (.int .u64 16045690984833335023)⟩,
  ⟨37, 39, 1, true, false, List.replicate 8 (.int .u64 16045690984833335023)⟩,
  ⟨38, 39, 1, true, false, List.replicate 8 (.int .u64 16045690984833335023)⟩,
  ⟨39, 39, 1, true, false, List.replicate 8 (.int .u64 16045690984833335023)⟩,
  ⟨40, 39, 1, true, false, List.replicate 8 (.int .u64 16045690984833335023)⟩,
  ⟨41, 39, 1, true, false, List.replicate 12 (.int .u64 16045690984833335023)⟩,
  ⟨42, 39, 1, true, false, List.replicate 12 (.int .u64 16045690984833335023)⟩,
  ⟨43, 39, 1, true, false, List.replicate 12 (.int .u64 16045690984833335023)⟩,
  ⟨44, 39, 1, true, false, List.replicate 12 (.int .u64 16045690984833335023)⟩,
  ⟨45, 39, 1, true, false, List.replicate 12 (.int .u64 16045690984833335023)⟩,
  ⟨46, 39, 1, true, false, List.replicate 12 (.int .u64 16045690984833335023)⟩,
  ⟨47, 39, 1, true, false, List.replicate 12 (.int .u64 16045690984833335023)⟩,
  ⟨48, 39, 1, true, false, List.replicate 12 (.int .u64 16045690984833335023)⟩,
  ⟨49, 39, 1, true, false, List.replicate 12 (.int .u64 16045690984833335023)⟩,
  ⟨50, 39, 1, true, false, List.replicate 12 (.int .u64 16045690984833335023)⟩,
  ⟨51, 39, 1, true, false, List.replicate 12 (.int .u64 16045690984833335023)⟩,
  ⟨52, 39, 1, true, false, List.replicate 12 (.int .u64 16045690984833335023)⟩,
  ⟨53, 39, 1, true, false, List.replicate 12 (.int .u64 16045690984833335023)⟩,
  ⟨54, 39, 1, true, false, List.replicate 12 (.int .u64 16045690984833335023)⟩,
  ⟨55, 39, 1, true, false, List.replicate 12 (.int .u64 16045690984833335023)⟩,
  ⟨56, 39, 1, true, false, List.replicate 12 (.int .u64 16045690984833335023)⟩,
  ⟨57, 39, 1, true, false, List.replicate 12 (.int .u64 16045690984833335023)⟩,
  ⟨58, 39, 1, true, false, List.replicate 12 (.int .u64 16045690984833335023)⟩,
  ⟨59, 39, 1, true, false, List.replicate 12 (.int .u64 16045690984833335023)⟩,
  ⟨60, 39, 1, true, false, List.replicate 12 (.int .u64 16045690984833335023)⟩]
noncomputable def d31_nw1 : List Ev.NO := [
  ⟨61, 39, 1, true, false, List.replicate 12 (.int .u64 16045690984833335023)⟩,
  ⟨62, 39, 1, true, false, List.replicate 12 (.int .u64 16045690984833335023)⟩,
  ⟨63, 39, 1, true, false, List.replicate 12 (.int .u64 16045690984833335023)⟩,
  ⟨64, 39, 1, true, false, List.replicate 12 (.int .u64 16045690984833335023)⟩,
  ⟨65, 39, 1, true, false, List.replicate 24 (.int .u64 16045690984833335023)⟩,
  ⟨66, 39, 1, true, false, List.replicate 24 (.int .u64 16045690984833335023)⟩,
  ⟨67, 39, 1, true, false, List.replicate 24 (.int .u64 16045690984833335023)⟩,
  ⟨68, 39, 1, true, false, List.replicate 24 (.int .u64 16045690984833335023)⟩,
  ⟨69, 39, 1, true, false, List.replicate 24 (.int .u64 16045690984833335023)⟩,
  ⟨70, 39, 1, true, false, List.replicate 24 (.int .u64 16045690984833335023)⟩,
  ⟨71, 39, 1, true, false, List.replicate 24 (.int .u64 16045690984833335023)⟩,
  ⟨72, 39, 1, true, false, List.replicate 24 (.int .u64 16045690984833335023)⟩,
  ⟨73, 39, 1, true, false, List.replicate 88 (.int .u64 16045690984833335023)⟩,
  ⟨74, 39, 1, true, false, List.replicate 88 (.int .u64 16045690984833335023)⟩,
  ⟨75, 39, 1, true, false, List.replicate 88 (.int .u64 16045690984833335023)⟩,
  ⟨76, 39, 1, true, false, List.replicate 88 (.int .u64 16045690984833335023)⟩,
  ⟨95, 39, 1, true, false, [.int .u64 0, .int .u64 4] ++ List.replicate 262 (.int .u64 0)⟩,
  ⟨78, 39, 1, true, false, List.replicate 264 (.int .u64 16045690984833335023)⟩,
  ⟨79, 206, 4, true, true, [.int .i64 0, .int .i64 1, .bool false, .slice (some ⟨0, 0, none⟩) 8 8, .int .i64 0, .int .i64 1, .bool false, .slice (some ⟨1, 0, none⟩) 8 8, .int .i64 0, .int .i64 1, .bool false, .slice (some ⟨2, 0, none⟩) 8 8, .int .i64 0, .int .i64 1, .bool false, .slice (some ⟨3, 0, none⟩) 8 8, .int .i64 0, .int .i64 1, .bool false, .slice (some ⟨4, 0, none⟩) 8 8, .int .i64 0, .int .i64 1, .bool false, .slice (some ⟨5, 0, none⟩) 8 8, .int .i64 0, .int .i64 1, .bool false, .slice (some ⟨6, 0, none⟩) 8 8, .int .i64 0, .int .i64 1, .bool false, .slice (some ⟨7, 0, none⟩) 8 8, .int .i64 0, .int .i64 1, .bool false, .slice (some ⟨8, 0, none⟩) 8 8, .int .i64 0, .int .i64 1, .bool false, .slice (some ⟨9, 0, none⟩) 8 8, .int .i64 0, .int .i64 1, .bool false, .slice (some ⟨10, 0, none⟩) 8 8, .int .i64 0, .int .i64 1, .bool false, .slice (some ⟨11, 0, none⟩) 8 8, .int .i64 0, .int .i64 1, .bool false, .slice (some ⟨12, 0, none⟩) 8 8, .int .i64 0, .int .i64 1, .bool false, .slice (some ⟨13, 0, none⟩) 8 8, .int .i64 0, .int .i64 1, .bool false, .slice (some ⟨14, 0, none⟩) 8 8, .int .i64 0, .int .i64 1, .bool false, .slice (some ⟨15, 0, none⟩) 8 8, .int .i64 0, .int .i64 1, .bool false, .slice (some ⟨16, 0, none⟩) 8 8, .int .i64 0, .int .i64 1, .bool false, .slice (some ⟨17, 0, none⟩) 8 8, .int .i64 0, .int .i64 1, .bool false, .slice (some ⟨18, 0, none⟩) 8 8, .int .i64 0, .int .i64 1, .bool false, .slice (some ⟨19, 0, none⟩) 8 8, .int .i64 0, .int .i64 1, .bool false, .slice (some ⟨20, 0, none⟩) 8 8, .int .i64 0, .int .i64 1, .bool false, .slice (some ⟨21, 0, none⟩) 8 8, .int .i64 0, .int .i64 1, .bool false, .slice (some ⟨22, 0, none⟩) 8 8, .int .i64 0, .int .i64 1, .bool false, .slice (some ⟨23, 0, none⟩) 8 8, .int .i64 0, .int .i64 1, .bool false, .slice (some ⟨24, 0, none⟩) 8 8, .int .i64 0, .int .i64 1, .bool false, .slice (some ⟨25, 0, none⟩) 8 8, .int .i64 0, .int .i64 1, .bool false, .slice (some ⟨26, 0, none⟩) 8 8, .int .i64 0, .int .i64 1, .bool false, .slice (some ⟨27, 0, none⟩) 8 8, .int .i64 0, .int .i64 1, .bool false, .slice (some ⟨28, 0, none⟩) 8 8, .int .i64 0, .int .i64 1, .bool false, .slice (some ⟨29, 0, none⟩) 8 8, .int .i64 0, .int .i64 1, .bool false, .slice (some ⟨30, 0, none⟩) 8 8, .int .i64 0, .int .i64 1, .bool false, .slice (some ⟨31, 0, none⟩) 8 8, .int .i64 0, .int .i64 1, .bool false, .slice (some ⟨32, 0, none⟩) 8 8, .int .i64 0, .int .i64 1, .bool false, .slice (some ⟨33, 0, none⟩) 8 8, .int .i64 0, .int .i64 1, .bool false, .slice (some ⟨34, 0, none⟩) 8 8, .int .i64 0, .int .i64 1, .bool false, .slice (some ⟨35, 0, none⟩) 8 8, .int .i64 0, .int .i64 1, .bool false, .slice (some ⟨36, 0, none⟩) 8 8, .int .i64 0, .int .i64 1, .bool false, .slice (some ⟨37, 0, none⟩) 8 8, .int .i64 0, .int .i64 1, .bool false, .slice (some ⟨38, 0, none⟩) 8 8, .int .i64 0, .int .i64 1, .bool false, .slice (some ⟨39, 0, none⟩) 8 8, .int .i64 1, .int .i64 1, .bool false, .slice (some ⟨40, 0, none⟩) 12 12, .int .i64 1, .int .i64 1, .bool false, .slice (some ⟨41, 0, none⟩) 12 12, .int .i64 1, .int .i64 1, .bool false, .slice (some ⟨42, 0, none⟩) 12 12, .int .i64 1, .int .i64 1, .bool false, .slice (some ⟨43, 0, none⟩) 12 12, .int .i64 1, .int .i64 1, .bool false, .slice (some ⟨44, 0, none⟩) 12 12, .int .i64 1, .int .i64 1, .bool false, .slice (some ⟨45, 0, none⟩) 12 12, .int .i64 1, .int .i64 1, .bool false, .slice (some ⟨46, 0, none⟩) 12 12, .int .i64 1, .int .i64 1, .bool false, .slice (some ⟨47, 0, none⟩) 12 12, .int .i64 1, .int .i64 1, .bool false, .slice (some ⟨48, 0, none⟩) 12 12, .int .i64 1, .int .i64 1, .bool false, .slice (some ⟨49, 0, none⟩) 12 12, .int .i64 1, .int .i64 1, .bool false, .slice (some ⟨50, 0, none⟩) 12 12, .int .i64 1, .int .i64 1, .bool false, .slice (some ⟨51, 0, none⟩) 12 12, .int .i64 1, .int .i64 1, .bool false, .slice (some ⟨52, 0, none⟩) 12 12, .int .i64 1, .int .i64 1, .bool false, .slice (some ⟨53, 0, none⟩) 12 12, .int .i64 1, .int .i64 1, .bool false, .slice (some ⟨54, 0, none⟩) 12 12, .int .i64 1, .int .i64 1, .bool false, .slice (some ⟨55, 0, none⟩) 12 12, .int .i64 1, .int .i64 1, .bool false, .slice (some ⟨56, 0, none⟩) 12 12, .int .i64 1, .int .i64 1, .bool false, .slice (some ⟨57, 0, none⟩) 12 12, .int .i64 1, .int .i64 1, .bool false, .slice (some ⟨58, 0, none⟩) 12 12, .int .i64 1, .int .i64 1, .bool false, .slice (some ⟨59, 0, none⟩) 12 12, .int .i64 1, .int .i64 1, .bool false, .slice (some ⟨60, 0, none⟩) 12 12, .int .i64 1, .int .i64 1, .bool false, .slice (some ⟨61, 0, none⟩) 12 12, .int .i64 1, .int .i64 1, .bool false, .slice (some ⟨62, 0, none⟩) 12 12, .int .i64 1, .int .i64 1, .bool false, .slice (some ⟨63, 0, none⟩) 12 12, .int .i64 2, .int .i64 1, .bool false, .slice (some ⟨64, 0, none⟩) 24 24, .int .i64 2, .int .i64 1, .bool false, .slice (some ⟨65, 0, none⟩) 24 24, .int .i64 2, .int .i64 1, .bool false, .slice (some ⟨66, 0, none⟩) 24 24, .int .i64 2, .int .i64 1, .bool false, .slice (some ⟨67, 0, none⟩) 24 24, .int .i64 2, .int .i64 1, .bool false, .slice (some ⟨68, 0, none⟩) 24 24, .int .i64 2, .int .i64 1, .bool false, .slice (some ⟨69, 0, none⟩) 24 24, .int .i64 2, .int .i64 1, .bool false, .slice (some ⟨70, 0, none⟩) 24 24, .int .i64 2, .int .i64 1, .bool false, .slice (some ⟨71, 0, none⟩) 24 24, .int .i64 3, .int .i64 1, .bool false, .slice (some ⟨72, 0, none⟩) 88 88, .int .i64 3, .int .i64 1, .bool false, .slice (some ⟨73, 0, none⟩) 88 88, .int .i64 3, .int .i64 1, .bool false, .slice (some ⟨74, 0, none⟩) 88 88, .int .i64 3, .int .i64 1, .bool false, .slice (some ⟨75, 0, none⟩) 88 88, .int .i64 4, .int .i64 1, .bool true, .slice (some ⟨76, 0, none⟩) 264 264, .int .i64 4, .int .i64 1, .bool false, .slice (some ⟨77, 0, none⟩) 264 264]⟩,
  ⟨80, 3, 1, true, true, [.int .i64 0, .int .i64 1, .int .i64 2, .int .i64 3, .int .i64 4, .int .i64 5, .int .i64 6, .int .i64 7, .int .i64 8, .int .i64 9, .int .i64 10, .int .i64 11, .int .i64 12, .int .i64 13, .int .i64 14, .int .i64 15, .int .i64 16, .int .i64 17, .int .i64 18, .int .i64 19, .int .i64 20, .int .i64 21, .int .i64 22, .int .i64 23, .int .i64 24, .int .i64 25, .int .i64 26, .int .i64 27, .int .i64 28, .int .i64 29, .int .i64 30, .int .i64 31, .int .i64 32, .int .i64 33, .int .i64 34, .int .i64 35, .int .i64 36, .int .i64 37, .int .i64 38, .int .i64 39]⟩,
  ⟨81, 3, 1, true, true, [.int .i64 40, .int .i64 41, .int .i64 42, .int .i64 43, .int .i64 44, .int .i64 45, .int .i64 46, .int .i64 47, .int .i64 48, .int .i64 49, .int .i64 50, .int .i64 51, .int .i64 52, .int .i64 53, .int .i64 54, .int .i64 55, .int .i64 56, .int .i64 57, .int .i64 58, .int .i64 59, .int .i64 60, .int .i64 61, .int .i64 62, .int .i64 63]⟩,
  ⟨82, 3, 1, true, true, [.int .i64 64, .int .i64 65, .int .i64 66, .int .i64 67, .int .i64 68, .int .i64 69, .int .i64 70, .int .i64 71]⟩,
  ⟨83, 3, 1, true, true, [.int .i64 72, .int .i64 73, .int .i64 74, .int .i64 75]⟩,
  ⟨84, 3, 1, true, true, [.int .i64 76, .int .i64 77]⟩,
  ⟨85, 203, 0, true, false, [.slice (some ⟨78, 0, none⟩) 78 78, .int .i64 78, .slice (some ⟨79, 0, none⟩) 40 40, .int .i64 78, .slice (some ⟨80, 0, none⟩) 24 24, .int .i64 78, .slice (some ⟨81, 0, none⟩) 8 8, .int .i64 78, .slice (some ⟨82, 0, none⟩) 4 4, .int .i64 78, .slice (some ⟨83, 1, none⟩) 1 1]⟩,
  ⟨86, 3, 1, true, false, [.int .i64 (-1), .int .i64 (-1), .int .i64 (-1), .int .i64 (-1)]⟩,
  ⟨87, 283, 1, true, false, [.slice none 0 0, .slice none 0 0, .slice none 0 0, .slice none 0 0]⟩,
  ⟨88, 209, 0, true, false, [.int .i64 0, .int .i64 8, .slice (some ⟨85, 0, none⟩) 4 4, .slice (some ⟨86, 0, none⟩) 4 4]⟩,
  ⟨89, 80, 0, true, false, [.pointer (some ⟨84, 0, none⟩), .pointer (some ⟨87, 0, none⟩), .int .i64 (-1), .int .i64 65612]⟩]
noncomputable def d31_nw : List Ev.NO := d31_nw0 ++ d31_nw1
noncomputable def d31_pa : List (Nat × Nat × Nat) := []
noncomputable def d31_pl : List (Nat × Nat × Nat × Nat) := []
noncomputable def d31_m : Ev.SMemo := ⟨31, [.agg #[.int .i64 40, .int .i64 24, .int .i64 8, .int .i64 4, .int .i64 2, .int .i64 4, .int .i64 8, .int .i64 1]], d31_l0, d31_pa, d31_pl, .tuple #[.pointer (some ⟨88, 0, none⟩), .int .i64 0], d31_chg, d31_nw⟩
noncomputable def d31_srcT : Ev.Tr Nat := (.node 1 (.node 2 (.node 4 (.node 8 (.node 16 (.node 32 (.node 64 .leaf .leaf) .leaf) (.node 48 (.node 80 .leaf .leaf) .leaf)) (.node 24 (.node 40 (.node 72 .leaf .leaf) .leaf) (.node 56 (.node 88 .leaf .leaf) .leaf))) (.node 12 (.node 20 (.node 36 (.node 68 .leaf .leaf) .leaf) (.node 52 (.node 84 .leaf .leaf) .leaf)) (.node 28 (.node 44 (.node 76 .leaf .leaf) .leaf) (.node 60 .leaf .leaf)))) (.node 6 (.node 10 (.node 18 (.node 34 (.node 66 .leaf .leaf) .leaf) (.node 50 (.node 82 .leaf .leaf) .leaf)) (.node 26 (.node 42 (.node 74 .leaf .leaf) .leaf) (.node 58 .leaf .leaf))) (.node 14 (.node 22 (.node 38 (.node 70 .leaf .leaf) .leaf) (.node 54 (.node 86 .leaf .leaf) .leaf)) (.node 30 (.node 46 (.node 78 .leaf .leaf) .leaf) (.node 62 .leaf .leaf))))) (.node 3 (.node 5 (.node 9 (.node 17 (.node 33 (.node 65 .leaf .leaf) .leaf) (.node 49 (.node 81 .leaf .leaf) .leaf)) (.node 25 (.node 41 (.node 73 .leaf .leaf) .leaf) (.node 57 (.node 89 .leaf .leaf) .leaf))) (.node 13 (.node 21 (.node 37 (.node 69 .leaf .leaf) .leaf) (.node 53 (.node 85 .leaf .leaf) .leaf)) (.node 29 (.node 45 (.node 95 .leaf .leaf) .leaf) (.node 61 .leaf .leaf)))) (.node 7 (.node 11 (.node 19 (.node 35 (.node 67 .leaf .leaf) .leaf) (.node 51 (.node 83 .leaf .leaf) .leaf)) (.node 27 (.node 43 (.node 75 .leaf .leaf) .leaf) (.node 59 .leaf .leaf))) (.node 15 (.node 23 (.node 39 (.node 71 .leaf .leaf) .leaf) (.node 55 (.node 87 .leaf .leaf) .leaf)) (.node 31 (.node 47 (.node 79 .leaf .leaf) .leaf) (.node 63 .leaf .leaf))))))
noncomputable def d31_invT : Ev.Tr Nat := (.node 0 (.node 0 (.node 2 (.node 6 (.node 14 (.node 30 (.node 62 .leaf .leaf) (.node 76 .leaf .leaf)) (.node 46 (.node 78 .leaf .leaf) .leaf)) (.node 22 (.node 38 (.node 70 .leaf .leaf) .leaf) (.node 54 (.node 86 .leaf .leaf) .leaf))) (.node 10 (.node 18 (.node 34 (.node 66 .leaf .leaf) .leaf) (.node 50 (.node 82 .leaf .leaf) .leaf)) (.node 26 (.node 42 (.node 74 .leaf .leaf) .leaf) (.node 58 .leaf .leaf)))) (.node 4 (.node 8 (.node 16 (.node 32 (.node 64 .leaf .leaf) .leaf) (.node 48 (.node 80 .leaf .leaf) .leaf)) (.node 24 (.node 40 (.node 72 .leaf .leaf) .leaf) (.node 56 (.node 88 .leaf .leaf) .leaf))) (.node 12 (.node 20 (.node 36 (.node 68 .leaf .leaf) .leaf) (.node 52 (.node 84 .leaf .leaf) .leaf)) (.node 28 (.node 44 .leaf .leaf) (.node 60 .leaf .leaf))))) (.node 1 (.node 3 (.node 7 (.node 15 (.node 31 (.node 63 .leaf .leaf) .leaf) (.node 47 (.node 79 .leaf .leaf) .leaf)) (.node 23 (.node 39 (.node 71 .leaf .leaf) .leaf) (.node 55 (.node 87 .leaf .leaf) .leaf))) (.node 11 (.node 19 (.node 35 (.node 67 .leaf .leaf) .leaf) (.node 51 (.node 83 .leaf .leaf) .leaf)) (.node 27 (.node 43 (.node 75 .leaf .leaf) .leaf) (.node 59 .leaf .leaf)))) (.node 5 (.node 9 (.node 17 (.node 33 (.node 65 .leaf .leaf) .leaf) (.node 49 (.node 81 .leaf .leaf) .leaf)) (.node 25 (.node 41 (.node 73 .leaf .leaf) .leaf) (.node 57 .leaf .leaf))) (.node 13 (.node 21 (.node 37 (.node 69 .leaf .leaf) .leaf) (.node 53 (.node 85 .leaf .leaf) .leaf)) (.node 29 (.node 45 (.node 77 .leaf .leaf) .leaf) (.node 61 .leaf .leaf))))))
theorem d31_chk : Ev.chkEnd d31_m (Ev.Tr.get 0 d31_srcT) (Ev.Tr.get 0 d31_invT) (@Ev.runF Ev.noSym Tryz.prog orcC 400000 (.fn d31_m.g (Ev.mapBL (fun i => 0 + i) d31_m.args) (Ev.layAll Ev.st0 d31_m.l0))) = true := by kernel_rfl
theorem d31_sok [Ev.Tok] : letI : Ev.Sym := Ev.noSym; Ev.SOk Tryz.prog d31_m := by
  letI : Ev.Sym := Ev.noSym
  exact Ev.smemo_sok (Ev.noSym_ok _) orcC_ok mixed d31_chk
end Go.Proofs.YtjhkgjcgaeljkaaGreat
