/-
  What a new arena is, told by the law's own reckoning: reckoned by a verified evaluator; no condition.
-/
import Derived.Test.YtjhkgjcgaeljkaaGreatMA
namespace Go.Proofs.YtjhkgjcgaeljkaaGreat
open Go Go.RowKit
set_option maxRecDepth 1000000
set_option linter.all false
noncomputable def orcB : Ev.Orc := Ev.orcS orc0 [p0_m, p1_m, p2_m, p3_m, p4_m]
theorem orcB_ok [Ev.Tok] : letI : Ev.Sym := Ev.noSym; Ev.OrcOk Tryz.prog orcB := by
  letI : Ev.Sym := Ev.noSym
  refine Ev.orcS_ok orc0_ok _ ?_
  intro M hM
  simp only [List.mem_cons, List.not_mem_nil, or_false] at hM
  rcases hM with rfl | rfl | rfl | rfl | rfl
  · exact p0_sok
  · exact p1_sok
  · exact p2_sok
  · exact p3_sok
  · exact p4_sok
noncomputable def a53_l0 : List Ev.NO := []
noncomputable def a53_chg : List (Nat × Ev.NO) := []
noncomputable def a53_nw0 : List Ev.NO := [
  ⟨5, 39, 1, true, false, List.replicate 8 (.int .u64 16045690984833335023)⟩,
  ⟨12, 39, 1, true, false, List.replicate 8 (.int .u64 16045690984833335023)⟩,
  ⟨19, 39, 1, true, false, List.replicate 8 (.int .u64 16045690984833335023)⟩,
  ⟨26, 39, 1, true, false, List.replicate 8 (.int .u64 16045690984833335023)⟩,
  ⟨33, 39, 1, true, false, List.replicate 8 (.int .u64 16045690984833335023)⟩,
  ⟨40, 39, 1, true, false, List.replicate 8 (.int .u64 16045690984833335023)⟩,
  ⟨47, 39, 1, true, false, List.replicate 8 (.int .u64 16045690984833335023)⟩,
  ⟨54, 39, 1, true, false, List.replicate 8 (.int .u64 16045690984833335023)⟩,
  ⟨61, 39, 1, true, false, List.replicate 8 (.int .u64 16045690984833335023)⟩,
  ⟨68, 39, 1, true, false, List.replicate 8 (.int .u64 16045690984833335023)⟩,
  ⟨75, 39, 1, true, false, List.replicate 8 (.int .u64 16045690984833335023)⟩,
  ⟨82, 39, 1, true, false, List.replicate 8 (.int .u64 16045690984833335023)⟩,
  ⟨89, 39, 1, true, false, List.replicate 8 (.int .u64 16045690984833335023)⟩,
  ⟨96, 39, 1, true, false, List.replicate 8 (.int .u64 16045690984833335023)⟩,
  ⟨103, 39, 1, true, false, List.replicate 8 (.int .u64 16045690984833335023)⟩,
  ⟨110, 39, 1, true, false, List.replicate 8 (.int .u64 16045690984833335023)⟩,
  ⟨117, 39, 1, true, false, List.replicate 8 (.int .u64 16045690984833335023)⟩,
  ⟨124, 39, 1, true, false, List.replicate 8 (.int .u64 16045690984833335023)⟩,
  ⟨131, 39, 1, true, false, List.replicate 8 (.int .u64 16045690984833335023)⟩,
  ⟨138, 39, 1, true, false, List.replicate 8 (.int .u64 16045690984833335023)⟩,
  ⟨145, 39, 1, true, false, List.replicate 8 (.int .u64 16045690984833335023)⟩,
  ⟨152, 39, 1, true, false, List.replicate 8 (.int .u64 16045690984833335023)⟩,
  ⟨159, 39, 1, true, false, List.replicate 8 (.int .u64 16045690984833335023)⟩,
  ⟨166, 39, 1, true, false, List.replicate 8 (.int .u64 16045690984833335023)⟩,
  ⟨173, 39, 1, true, false, List.replicate 8 (.int .u64 16045690984833335023)⟩,
  ⟨180, 39, 1, true, false, List.replicate 8 (.int .u64 16045690984833335023)⟩,
  ⟨187, 39, 1, true, false, List.replicate 8 (.int .u64 16045690984833335023)⟩,
  ⟨194, 39, 1, true, false, List.replicate 8 (.int .u64 16045690984833335023)⟩,
  ⟨201, 39, 1, true, false, List.replicate 8 (.int .u64 16045690984833335023)⟩,
  ⟨208, 39, 1, true, false, List.replicate 8 (.int .u64 16045690984833335023)⟩,
  ⟨215, 39, 1, true, false, List.replicate 8 (.int .u64 16045690984833335023)⟩,
  ⟨222, 39, 1, true, false, List.replicate 8 (.int .u64 16045690984833335023)⟩,
  ⟨229, 39, 1, true, false, List.replicate 8 (.int .u64 16045690984833335023)⟩,
  ⟨236, 39, 1, true, false, List.replicate 8 (.int .u64 16045690984833335023)⟩,
  ⟨243, 39, 1, true, false, List.replicate 8 (.int .u64 16045690984833335023)⟩,
  ⟨250, 39, 1, true, false, List.replicate 8 (.int .u64 16045690984833335023)⟩,
  ⟨257, 39, 1, true, false, List.replicate 8 (.int .u64 16045690984833335023)⟩,
  ⟨264, 39, 1, true, false, List.replicate 8 (.int .u64 16045690984833335023)⟩,
  ⟨271, 39, 1, true, false, List.replicate 8 (.int .u64 16045690984833335023)⟩,
  ⟨278, 39, 1, true, false, List.replicate 8 (.int .u64 16045690984833335023)⟩,
  ⟨284, 39, 1, true, false, List.replicate 12 (.int .u64 16045690984833335023)⟩,
  ⟨291, 39, 1, true, false, List.replicate 12 (.int .u64 16045690984833335023)⟩,
  ⟨298, 39, 1, true, false, List.replicate 12 (.int .u64 16045690984833335023)⟩,
  ⟨305, 39, 1, true, false, List.replicate 12 (.int .u64 16045690984833335023)⟩,
  ⟨312, 39, 1, true, false, List.replicate 12 (.int .u64 16045690984833335023)⟩,
  ⟨319, 39, 1, true, false, List.replicate 12 (.int .u64 16045690984833335023)⟩,
  ⟨326, 39, 1, true, false, List.replicate 12 (.int .u64 16045690984833335023)⟩,
  ⟨333, 39, 1, true, false, List.replicate 12 (.int .u64 16045690984833335023)⟩,
  ⟨340, 39, 1, true, false, List.replicate 12 (.int .u64 16045690984833335023)⟩,
  ⟨347, 39, 1, true, false, List.replicate 12 (.int .u64 16045690984833335023)⟩,
  ⟨354, 39, 1, true, false, List.replicate 12 (.int .u64 16045690984833335023)⟩,
  ⟨361, 39, 1, true, false, List.replicate 12 (.int .u64 16045690984833335023)⟩,
  ⟨368, 39, 1, true, false, List.replicate 12 (.int .u64 16045690984833335023)⟩,
  ⟨375, 39, 1, true, false, List.replicate 12 (.int .u64 16045690984833335023)⟩,
  ⟨382, 39, 1, true, false, List.replicate 12 (.int .u64 16045690984833335023)⟩,
  ⟨389, 39, 1, true, false, List.replicate 12 (.int .u64 16045690984833335023)⟩,
  ⟨396, 39, 1, true, false, List.replicate 12 (.int .u64 16045690984833335023)⟩,
  ⟨403, 39, 1, true, false, List.replicate 12 (.int .u64 16045690984833335023)⟩,
  ⟨410, 39, 1, true, false, List.replicate 12 (.int .u64 16045690984833335023)⟩,
  ⟨417, 39, 1, true, false, List.replicate 12 (.int .u64 16045690984833335023)⟩]
noncomputable def a53_nw1 : List Ev.NO := [
  ⟨424, 39, 1, true, false, List.replicate 12 (.int .u64 16045690984833335023)⟩,
  ⟨431, 39, 1, true, false, List.replicate 12 (.int .u64 16045690984833335023)⟩,
  ⟨438, 39, 1, true, false, List.replicate 12 (.int .u64 16045690984833335023)⟩,
  ⟨445, 39, 1, true, false, List.replicate 12 (.int .u64 16045690984833335023)⟩,
  ⟨451, 39, 1, true, false, List.replicate 24 (.int .u64 16045690984833335023)⟩,
  ⟨458, 39, 1, true, false, List.replicate 24 (.int .u64 16045690984833335023)⟩,
  ⟨465, 39, 1, true, false, List.replicate 24 (.int .u64 16045690984833335023)⟩,
  ⟨472, 39, 1, true, false, List.replicate 24 (.int .u64 16045690984833335023)⟩,
  ⟨479, 39, 1, true, false, List.replicate 24 (.int .u64 16045690984833335023)⟩,
  ⟨486, 39, 1, true, false, List.replicate 24 (.int .u64 16045690984833335023)⟩,
  ⟨493, 39, 1, true, false, List.replicate 24 (.int .u64 16045690984833335023)⟩,
  ⟨500, 39, 1, true, false, List.replicate 24 (.int .u64 16045690984833335023)⟩,
  ⟨506, 39, 1, true, false, List.replicate 88 (.int .u64 16045690984833335023)⟩,
  ⟨513, 39, 1, true, false, List.replicate 88 (.int .u64 16045690984833335023)⟩,
  ⟨520, 39, 1, true, false, List.replicate 88 (.int .u64 16045690984833335023)⟩,
  ⟨527, 39, 1, true, false, List.replicate 88 (.int .u64 16045690984833335023)⟩,
  ⟨533, 39, 1, true, false, List.replicate 264 (.int .u64 16045690984833335023)⟩,
  ⟨540, 39, 1, true, false, List.replicate 264 (.int .u64 16045690984833335023)⟩,
  ⟨542, 206, 4, true, true, [.int .i64 0, .int .i64 1, .bool false, .slice (some ⟨0, 0, none⟩) 8 8, .int .i64 0, .int .i64 1, .bool false, .slice (some ⟨1, 0, none⟩) 8 8, .int .i64 0, .int .i64 1, .bool false, .slice (some ⟨2, 0, none⟩) 8 8, .int .i64 0, .int .i64 1, .bool false, .slice (some ⟨3, 0, none⟩) 8 8, .int .i64 0, .int .i64 1, .bool false, .slice (some ⟨4, 0, none⟩) 8 8, .int .i64 0, .int .i64 1, .bool false, .slice (some ⟨5, 0, none⟩) 8 8, .int .i64 0, .int .i64 1, .bool false, .slice (some ⟨6, 0, none⟩) 8 8, .int .i64 0, .int .i64 1, .bool false, .slice (some ⟨7, 0, none⟩) 8 8, .int .i64 0, .int .i64 1, .bool false, .slice (some ⟨8, 0, none⟩) 8 8, .int .i64 0, .int .i64 1, .bool false, .slice (some ⟨9, 0, none⟩) 8 8, .int .i64 0, .int .i64 1, .bool false, .slice (some ⟨10, 0, none⟩) 8 8, .int .i64 0, .int .i64 1, .bool false, .slice (some ⟨11, 0, none⟩) 8 8, .int .i64 0, .int .i64 1, .bool false, .slice (some ⟨12, 0, none⟩) 8 8, .int .i64 0, .int .i64 1, .bool false, .slice (some ⟨13, 0, none⟩) 8 8, .int .i64 0, .int .i64 1, .bool false, .slice (some ⟨14, 0, none⟩) 8 8, .int .i64 0, .int .i64 1, .bool false, .slice (some ⟨15, 0, none⟩) 8 8, .int .i64 0, .int .i64 1, .bool false, .slice (some ⟨16, 0, none⟩) 8 8, .int .i64 0, .int .i64 1, .bool false, .slice (some ⟨17, 0, none⟩) 8 8, .int .i64 0, .int .i64 1, .bool false, .slice (some ⟨18, 0, none⟩) 8 8, .int .i64 0, .int .i64 1, .bool false, .slice (some ⟨19, 0, none⟩) 8 8, .int .i64 0, .int .i64 1, .bool false, .slice (some ⟨20, 0, none⟩) 8 8, .int .i64 0, .int .i64 1, .bool false, .slice (some ⟨21, 0, none⟩) 8 8, .int .i64 0, .int .i64 1, .bool false, .slice (some ⟨22, 0, none⟩) 8 8, .int .i64 0, .int .i64 1, .bool false, .slice (some ⟨23, 0, none⟩) 8 8, .int .i64 0, .int .i64 1, .bool false, .slice (some ⟨24, 0, none⟩) 8 8, .int .i64 0, .int .i64 1, .bool false, .slice (some ⟨25, 0, none⟩) 8 8, .int .i64 0, .int .i64 1, .bool false, .slice (some ⟨26, 0, none⟩) 8 8, .int .i64 0, .int .i64 1, .bool false, .slice (some ⟨27, 0, none⟩) 8 8, .int .i64 0, .int .i64 1, .bool false, .slice (some ⟨28, 0, none⟩) 8 8, .int .i64 0, .int .i64 1, .bool false, .slice (some ⟨29, 0, none⟩) 8 8, .int .i64 0, .int .i64 1, .bool false, .slice (some ⟨30, 0, none⟩) 8 8, .int .i64 0, .int .i64 1, .bool false, .slice (some ⟨31, 0, none⟩) 8 8, .int .i64 0, .int .i64 1, .bool false, .slice (some ⟨32, 0, none⟩) 8 8, .int .i64 0, .int .i64 1, .bool false, .slice (some ⟨33, 0, none⟩) 8 8, .int .i64 0, .int .i64 1, .bool false, .slice (some ⟨34, 0, none⟩) 8 8, .int .i64 0, .int .i64 1, .bool false, .slice (some ⟨35, 0, none⟩) 8 8, .int .i64 0, .int .i64 1, .bool false, .slice (some ⟨36, 0, none⟩) 8 8, .int .i64 0, .int .i64 1, .bool false, .slice (some ⟨37, 0, none⟩) 8 8, .int .i64 0, .int .i64 1, .bool false, .slice (some ⟨38, 0, none⟩) 8 8, .int .i64 0, .int .i64 1, .bool false, .slice (some ⟨39, 0, none⟩) 8 8, .int .i64 1, .int .i64 1, .bool false, .slice (some ⟨40, 0, none⟩) 12 12, .int .i64 1, .int .i64 1, .bool false, .slice (some ⟨41, 0, none⟩) 12 12, .int .i64 1, .int .i64 1, .bool false, .slice (some ⟨42, 0, none⟩) 12 12, .int .i64 1, .int .i64 1, .bool false, .slice (some ⟨43, 0, none⟩) 12 12, .int .i64 1, .int .i64 1, .bool false, .slice (some ⟨44, 0, none⟩) 12 12, .int .i64 1, .int .i64 1, .bool false, .slice (some ⟨45, 0, none⟩) 12 12, .int .i64 1, .int .i64 1, .bool false, .slice (some ⟨46, 0, none⟩) 12 12, .int .i64 1, .int .i64 1, .bool false, .slice (some ⟨47, 0, none⟩) 12 12, .int .i64 1, .int .i64 1, .bool false, .slice (some ⟨48, 0, none⟩) 12 12, .int .i64 1, .int .i64 1, .bool false, .slice (some ⟨49, 0, none⟩) 12 12, .int .i64 1, .int .i64 1, .bool false, .slice (some ⟨50, 0, none⟩) 12 12, .int .i64 1, .int .i64 1, .bool false, .slice (some ⟨51, 0, none⟩) 12 12, .int .i64 1, .int .i64 1, .bool false, .slice (some ⟨52, 0, none⟩) 12 12, .int .i64 1, .int .i64 1, .bool false, .slice (some ⟨53, 0, none⟩) 12 12, .int .i64 1, .int .i64 1, .bool false, .slice (some ⟨54, 0, none⟩) 12 12, .int .i64 1, .int .i64 1, .bool false, .slice (some ⟨55, 0, none⟩) 12 12, .int .i64 1, .int .i64 1, .bool false, .slice (some ⟨56, 0, none⟩) 12 12, .int .i64 1, .int .i64 1, .bool false, .slice (some ⟨57, 0, none⟩) 12 12, .int .i64 1, .int .i64 1, .bool false, .slice (some ⟨58, 0, none⟩) 12 12, .int .i64 1, .int .i64 1, .bool false, .slice (some ⟨59, 0, none⟩) 12 12, .int .i64 1, .int .i64 1, .bool false, .slice (some ⟨60, 0, none⟩) 12 12, .int .i64 1, .int .i64 1, .bool false, .slice (some ⟨61, 0, none⟩) 12 12, .int .i64 1, .int .i64 1, .bool false, .slice (some ⟨62, 0, none⟩) 12 12, .int .i64 1, .int .i64 1, .bool false, .slice (some ⟨63, 0, none⟩) 12 12, .int .i64 2, .int .i64 1, .bool false, .slice (some ⟨64, 0, none⟩) 24 24, .int .i64 2, .int .i64 1, .bool false, .slice (some ⟨65, 0, none⟩) 24 24, .int .i64 2, .int .i64 1, .bool false, .slice (some ⟨66, 0, none⟩) 24 24, .int .i64 2, .int .i64 1, .bool false, .slice (some ⟨67, 0, none⟩) 24 24, .int .i64 2, .int .i64 1, .bool false, .slice (some ⟨68, 0, none⟩) 24 24, .int .i64 2, .int .i64 1, .bool false, .slice (some ⟨69, 0, none⟩) 24 24, .int .i64 2, .int .i64 1, .bool false, .slice (some ⟨70, 0, none⟩) 24 24, .int .i64 2, .int .i64 1, .bool false, .slice (some ⟨71, 0, none⟩) 24 24, .int .i64 3, .int .i64 1, .bool false, .slice (some ⟨72, 0, none⟩) 88 88, .int .i64 3, .int .i64 1, .bool false, .slice (some ⟨73, 0, none⟩) 88 88, .int .i64 3, .int .i64 1, .bool false, .slice (some ⟨74, 0, none⟩) 88 88, .int .i64 3, .int .i64 1, .bool false, .slice (some ⟨75, 0, none⟩) 88 88, .int .i64 4, .int .i64 1, .bool false, .slice (some ⟨76, 0, none⟩) 264 264, .int .i64 4, .int .i64 1, .bool false, .slice (some ⟨77, 0, none⟩) 264 264]⟩,
  ⟨277, 3, 1, true, true, [.int .i64 0, .int .i64 1, .int .i64 2, .int .i64 3, .int .i64 4, .int .i64 5, .int .i64 6, .int .i64 7, .int .i64 8, .int .i64 9, .int .i64 10, .int .i64 11, .int .i64 12, .int .i64 13, .int .i64 14, .int .i64 15, .int .i64 16, .int .i64 17, .int .i64 18, .int .i64 19, .int .i64 20, .int .i64 21, .int .i64 22, .int .i64 23, .int .i64 24, .int .i64 25, .int .i64 26, .int .i64 27, .int .i64 28, .int .i64 29, .int .i64 30, .int .i64 31, .int .i64 32, .int .i64 33, .int .i64 34, .int .i64 35, .int .i64 36, .int .i64 37, .int .i64 38, .int .i64 39]⟩,
  ⟨444, 3, 1, true, true, [.int .i64 40, .int .i64 41, .int .i64 42, .int .i64 43, .int .i64 44, .int .i64 45, .int .i64 46, .int .i64 47, .int .i64 48, .int .i64 49, .int .i64 50, .int .i64 51, .int .i64 52, .int .i64 53, .int .i64 54, .int .i64 55, .int .i64 56, .int .i64 57, .int .i64 58, .int .i64 59, .int .i64 60, .int .i64 61, .int .i64 62, .int .i64 63]⟩,
  ⟨499, 3, 1, true, true, [.int .i64 64, .int .i64 65, .int .i64 66, .int .i64 67, .int .i64 68, .int .i64 69, .int .i64 70, .int .i64 71]⟩,
  ⟨526, 3, 1, true, true, [.int .i64 72, .int .i64 73, .int .i64 74, .int .i64 75]⟩,
  ⟨539, 3, 1, true, true, [.int .i64 76, .int .i64 77]⟩,
  ⟨1, 203, 0, true, false, [.slice (some ⟨78, 0, none⟩) 78 78, .int .i64 78, .slice (some ⟨79, 0, none⟩) 40 40, .int .i64 78, .slice (some ⟨80, 0, none⟩) 24 24, .int .i64 78, .slice (some ⟨81, 0, none⟩) 8 8, .int .i64 78, .slice (some ⟨82, 0, none⟩) 4 4, .int .i64 78, .slice (some ⟨83, 0, none⟩) 2 2]⟩]
noncomputable def a53_nw : List Ev.NO := a53_nw0 ++ a53_nw1
noncomputable def a53_pa : List (Nat × Nat × Nat) := []
noncomputable def a53_pl : List (Nat × Nat × Nat × Nat) := []
noncomputable def a53_m : Ev.SMemo := ⟨53, [.agg #[.int .i64 40, .int .i64 24, .int .i64 8, .int .i64 4, .int .i64 2]], a53_l0, a53_pa, a53_pl, .tuple #[.pointer (some ⟨84, 0, none⟩), .int .i64 0], a53_chg, a53_nw⟩
noncomputable def a53_srcT : Ev.Tr Nat := (.node 5 (.node 12 (.node 26 (.node 54 (.node 110 (.node 222 (.node 445 .leaf .leaf) .leaf) (.node 333 (.node 277 .leaf .leaf) .leaf)) (.node 166 (.node 278 (.node 500 .leaf .leaf) .leaf) (.node 389 .leaf .leaf))) (.node 82 (.node 138 (.node 250 (.node 472 .leaf .leaf) .leaf) (.node 361 (.node 539 .leaf .leaf) .leaf)) (.node 194 (.node 305 (.node 527 .leaf .leaf) .leaf) (.node 417 .leaf .leaf)))) (.node 40 (.node 68 (.node 124 (.node 236 (.node 458 .leaf .leaf) .leaf) (.node 347 (.node 499 .leaf .leaf) .leaf)) (.node 180 (.node 291 (.node 513 .leaf .leaf) .leaf) (.node 403 .leaf .leaf))) (.node 96 (.node 152 (.node 264 (.node 486 .leaf .leaf) .leaf) (.node 375 .leaf .leaf)) (.node 208 (.node 319 (.node 540 .leaf .leaf) .leaf) (.node 431 .leaf .leaf))))) (.node 19 (.node 33 (.node 61 (.node 117 (.node 229 (.node 451 .leaf .leaf) .leaf) (.node 340 (.node 444 .leaf .leaf) .leaf)) (.node 173 (.node 284 (.node 506 .leaf .leaf) .leaf) (.node 396 .leaf .leaf))) (.node 89 (.node 145 (.node 257 (.node 479 .leaf .leaf) .leaf) (.node 368 (.node 1 .leaf .leaf) .leaf)) (.node 201 (.node 312 (.node 533 .leaf .leaf) .leaf) (.node 424 .leaf .leaf)))) (.node 47 (.node 75 (.node 131 (.node 243 (.node 465 .leaf .leaf) .leaf) (.node 354 (.node 526 .leaf .leaf) .leaf)) (.node 187 (.node 298 (.node 520 .leaf .leaf) .leaf) (.node 410 .leaf .leaf))) (.node 103 (.node 159 (.node 271 (.node 493 .leaf .leaf) .leaf) (.node 382 .leaf .leaf)) (.node 215 (.node 326 (.node 542 .leaf .leaf) .leaf) (.node 438 .leaf .leaf))))))
noncomputable def a53_invT : Ev.Tr Nat := (.node 0 (.node 84 (.node 0 (.node 0 (.node 0 (.node 0 (.node 0 .leaf (.node 0 (.node 45 .leaf .leaf) .leaf)) (.node 0 (.node 22 .leaf .leaf) (.node 0 .leaf (.node 68 .leaf .leaf)))) (.node 6 (.node 0 (.node 0 (.node 38 (.node 75 .leaf .leaf) .leaf) .leaf) .leaf) (.node 0 (.node 0 .leaf (.node 61 .leaf .leaf)) .leaf))) (.node 0 (.node 0 .leaf (.node 14 .leaf .leaf)) (.node 0 (.node 0 .leaf (.node 30 .leaf .leaf)) (.node 0 .leaf (.node 0 (.node 53 .leaf .leaf) .leaf))))) (.node 0 (.node 2 (.node 0 (.node 0 (.node 18 .leaf .leaf) (.node 0 .leaf (.node 64 .leaf .leaf))) (.node 0 (.node 0 (.node 41 .leaf .leaf) .leaf) .leaf)) (.node 0 (.node 0 (.node 0 .leaf (.node 57 .leaf .leaf)) .leaf) (.node 0 .leaf (.node 34 .leaf (.node 81 .leaf .leaf))))) (.node 0 (.node 0 (.node 10 .leaf .leaf) .leaf) (.node 0 (.node 0 (.node 0 (.node 0 (.node 83 .leaf .leaf) .leaf) .leaf) (.node 0 (.node 49 .leaf .leaf) .leaf)) (.node 0 (.node 26 .leaf .leaf) .leaf))))) (.node 0 (.node 0 (.node 0 (.node 4 (.node 0 (.node 0 (.node 36 (.node 73 .leaf .leaf) .leaf) .leaf) .leaf) (.node 0 (.node 0 .leaf (.node 59 .leaf .leaf)) .leaf)) (.node 0 (.node 0 (.node 20 .leaf .leaf) (.node 0 .leaf (.node 66 .leaf .leaf))) (.node 0 (.node 0 (.node 43 .leaf .leaf) .leaf) .leaf))) (.node 0 (.node 0 (.node 0 .leaf (.node 28 .leaf .leaf)) (.node 0 .leaf (.node 0 (.node 51 .leaf .leaf) .leaf))) (.node 0 (.node 12 .leaf .leaf) .leaf))) (.node 0 (.node 0 (.node 0 (.node 0 (.node 0 .leaf (.node 55 .leaf .leaf)) .leaf) (.node 0 .leaf (.node 32 .leaf .leaf))) (.node 0 (.node 0 (.node 0 (.node 79 (.node 76 .leaf .leaf) .leaf) .leaf) .leaf) (.node 16 .leaf .leaf))) (.node 0 (.node 0 (.node 0 .leaf (.node 0 (.node 47 .leaf .leaf) .leaf)) (.node 0 (.node 24 .leaf .leaf) (.node 0 .leaf (.node 70 .leaf .leaf)))) (.node 8 .leaf (.node 0 (.node 0 .leaf (.node 63 .leaf .leaf)) .leaf)))))) (.node 0 (.node 0 (.node 0 (.node 0 (.node 0 .leaf (.node 13 .leaf .leaf)) (.node 0 (.node 0 .leaf (.node 29 .leaf .leaf)) (.node 0 .leaf (.node 0 (.node 52 .leaf .leaf) .leaf)))) (.node 0 (.node 5 (.node 0 (.node 0 (.node 37 (.node 74 .leaf .leaf) .leaf) .leaf) .leaf) (.node 0 (.node 0 .leaf (.node 60 .leaf .leaf)) .leaf)) (.node 0 (.node 0 (.node 21 .leaf .leaf) (.node 0 .leaf (.node 67 .leaf .leaf))) (.node 0 (.node 0 (.node 44 .leaf .leaf) .leaf) .leaf)))) (.node 1 (.node 0 (.node 0 (.node 9 .leaf .leaf) .leaf) (.node 0 (.node 0 .leaf (.node 0 (.node 48 .leaf .leaf) .leaf)) (.node 0 (.node 25 .leaf .leaf) (.node 0 .leaf (.node 71 .leaf .leaf))))) (.node 0 (.node 0 (.node 0 (.node 0 .leaf (.node 56 .leaf .leaf)) .leaf) (.node 0 .leaf (.node 33 .leaf .leaf))) (.node 0 (.node 0 (.node 0 (.node 40 (.node 77 .leaf .leaf) .leaf) .leaf) .leaf) (.node 17 (.node 0 .leaf (.node 80 .leaf .leaf)) .leaf))))) (.node 0 (.node 0 (.node 0 (.node 0 (.node 0 .leaf (.node 27 .leaf .leaf)) (.node 0 .leaf (.node 0 (.node 50 .leaf .leaf) .leaf))) (.node 0 (.node 11 .leaf .leaf) .leaf)) (.node 3 (.node 0 (.node 0 (.node 19 .leaf .leaf) (.node 0 .leaf (.node 65 .leaf .leaf))) (.node 0 (.node 0 (.node 42 .leaf .leaf) .leaf) .leaf)) (.node 0 (.node 0 (.node 0 .leaf (.node 58 .leaf .leaf)) .leaf) (.node 0 .leaf (.node 35 .leaf (.node 72 .leaf .leaf)))))) (.node 0 (.node 0 (.node 0 (.node 0 .leaf (.node 0 (.node 46 .leaf .leaf) .leaf)) (.node 0 (.node 23 .leaf .leaf) (.node 0 .leaf (.node 69 .leaf .leaf)))) (.node 7 (.node 0 (.node 0 (.node 39 .leaf .leaf) .leaf) .leaf) (.node 0 (.node 0 .leaf (.node 62 .leaf .leaf)) .leaf))) (.node 0 (.node 0 (.node 0 (.node 0 (.node 0 (.node 82 .leaf .leaf) .leaf) .leaf) .leaf) (.node 15 .leaf .leaf)) (.node 0 (.node 0 (.node 0 (.node 0 (.node 78 .leaf .leaf) .leaf) .leaf) (.node 31 .leaf .leaf)) (.node 0 .leaf (.node 0 (.node 54 .leaf .leaf) .leaf))))))))
theorem a53_chk : Ev.chkEnd a53_m (Ev.Tr.get 0 a53_srcT) (Ev.Tr.get 0 a53_invT) (@Ev.runF Ev.noSym Tryz.prog orcB 400000 (.fn a53_m.g (Ev.mapBL (fun i => 0 + i) a53_m.args) (Ev.layAll Ev.st0 a53_m.l0))) = true := by kernel_rfl
theorem a53_sok [Ev.Tok] : letI : Ev.Sym := Ev.noSym; Ev.SOk Tryz.prog a53_m := by
  letI : Ev.Sym := Ev.noSym
  exact Ev.smemo_sok (Ev.noSym_ok _) orcB_ok mixed a53_chk
end Go.Proofs.YtjhkgjcgaeljkaaGreat
