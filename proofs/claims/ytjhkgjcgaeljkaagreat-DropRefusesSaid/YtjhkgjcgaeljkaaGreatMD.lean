/-
  What a new memory is: reckoned by a verified evaluator; no condition.
-/
import Derived.Test.YtjhkgjcgaeljkaaGreatMA
namespace Go.Proofs.YtjhkgjcgaeljkaaGreat
open Go Go.RowKit
set_option maxRecDepth 1000000
set_option linter.all false
noncomputable def d30_l0 : List Ev.NO := []
noncomputable def d30_chg : List (Nat × Ev.NO) := []
noncomputable def d30_nw0 : List Ev.NO := [
  ⟨9, 39, 1, true, false, List.replicate 8 (.int .u64 16045690984833335023)⟩,
  ⟨15, 39, 1, true, false, List.replicate 8 (.int .u64 16045690984833335023)⟩,
  ⟨21, 39, 1, true, false, List.replicate 8 (.int .u64 16045690984833335023)⟩,
  ⟨27, 39, 1, true, false, List.replicate 8 (.int .u64 16045690984833335023)⟩,
  ⟨33, 39, 1, true, false, List.replicate 8 (.int .u64 16045690984833335023)⟩,
  ⟨39, 39, 1, true, false, List.replicate 8 (.int .u64 16045690984833335023)⟩,
  ⟨45, 39, 1, true, false, List.replicate 8 (.int .u64 16045690984833335023)⟩,
  ⟨51, 39, 1, true, false, List.replicate 8 (.int .u64 16045690984833335023)⟩,
  ⟨57, 39, 1, true, false, List.replicate 8 (.int .u64 16045690984833335023)⟩,
  ⟨63, 39, 1, true, false, List.replicate 8 (.int .u64 16045690984833335023)⟩,
  ⟨69, 39, 1, true, false, List.replicate 8 (.int .u64 16045690984833335023)⟩,
  ⟨75, 39, 1, true, false, List.replicate 8 (.int .u64 16045690984833335023)⟩,
  ⟨81, 39, 1, true, false, List.replicate 8 (.int .u64 16045690984833335023)⟩,
  ⟨87, 39, 1, true, false, List.replicate 8 (.int .u64 16045690984833335023)⟩,
  ⟨93, 39, 1, true, false, List.replicate 8 (.int .u64 16045690984833335023)⟩,
  ⟨99, 39, 1, true, false, List.replicate 8 (.int .u64 16045690984833335023)⟩,
  ⟨105, 39, 1, true, false, List.replicate 8 (.int .u64 16045690984833335023)⟩,
  ⟨111, 39, 1, true, false, List.replicate 8 (.int .u64 16045690984833335023)⟩,
  ⟨117, 39, 1, true, false, List.replicate 8 (.int .u64 16045690984833335023)⟩,
  ⟨123, 39, 1, true, false, List.replicate 8 (.int .u64 16045690984833335023)⟩,
  ⟨129, 39, 1, true, false, List.replicate 8 (.int .u64 16045690984833335023)⟩,
  ⟨135, 39, 1, true, false, List.replicate 8 (.int .u64 16045690984833335023)⟩,
  ⟨141, 39, 1, true, false, List.replicate 8 (.int .u64 16045690984833335023)⟩,
  ⟨147, 39, 1, true, false, List.replicate 8 (.int .u64 16045690984833335023)⟩,
  ⟨153, 39, 1, true, false, List.replicate 8 (.int .u64 16045690984833335023)⟩,
  ⟨159, 39, 1, true, false, List.replicate 8 (.int .u64 16045690984833335023)⟩,
  ⟨165, 39, 1, true, false, List.replicate 8 (.int .u64 16045690984833335023)⟩,
  ⟨171, 39, 1, true, false, List.replicate 8 (.int .u64 16045690984833335023)⟩,
  ⟨177, 39, 1, true, false, List.replicate 8 (.int .u64 16045690984833335023)⟩,
  ⟨183, 39, 1, true, false, List.replicate 8 (.int .u64 16045690984833335023)⟩,
  ⟨189, 39, 1, true, false, List.replicate 8 (.int .u64 16045690984833335023)⟩,
  ⟨195, 39, 1, true, false, List.replicate 8 (.int .u64 16045690984833335023)⟩,
  ⟨201, 39, 1, true, false, List.replicate 8 (.int .u64 16045690984833335023)⟩,
  ⟨207, 39, 1, true, false, List.replicate 8 (.int .u64 16045690984833335023)⟩,
  ⟨213, 39, 1, true, false, List.replicate 8 (.int .u64 16045690984833335023)⟩,
  ⟨219, 39, 1, true, false, List.replicate 8 (.int .u64 16045690984833335023)⟩,
  ⟨225, 39, 1, true, false, List.replicate 8 (.int .u64 16045690984833335023)⟩,
  ⟨231, 39, 1, true, false, List.replicate 8 (.int .u64 16045690984833335023)⟩,
  ⟨237, 39, 1, true, false, List.replicate 8 (.int .u64 16045690984833335023)⟩,
  ⟨243, 39, 1, true, false, List.replicate 8 (.int .u64 16045690984833335023)⟩,
  ⟨251, 39, 1, true, false, List.replicate 12 (.int .u64 16045690984833335023)⟩,
  ⟨257, 39, 1, true, false, List.replicate 12 (.int .u64 16045690984833335023)⟩,
  ⟨263, 39, 1, true, false, List.replicate 12 (.int .u64 16045690984833335023)⟩,
  ⟨269, 39, 1, true, false, List.replicate 12 (.int .u64 16045690984833335023)⟩,
  ⟨275, 39, 1, true, false, List.replicate 12 (.int .u64 16045690984833335023)⟩,
  ⟨281, 39, 1, true, false, List.replicate 12 (.int .u64 16045690984833335023)⟩,
  ⟨287, 39, 1, true, false, List.replicate 12 (.int .u64 16045690984833335023)⟩,
  ⟨293, 39, 1, true, false, List.replicate 12 (.int .u64 16045690984833335023)⟩,
  ⟨299, 39, 1, true, false, List.replicate 12 (.int .u64 16045690984833335023)⟩,
  ⟨305, 39, 1, true, false, List.replicate 12 (.int .u64 16045690984833335023)⟩,
  ⟨311, 39, 1, true, false, List.replicate 12 (.int .u64 16045690984833335023)⟩,
  ⟨317, 39, 1, true, false, List.replicate 12 (.int .u64 16045690984833335023)⟩,
  ⟨323, 39, 1, true, false, List.replicate 12 (.int .u64 16045690984833335023)⟩,
  ⟨329, 39, 1, true, false, List.replicate 12 (.int .u64 16045690984833335023)⟩,
  ⟨335, 39, 1, true, false, List.replicate 12 (.int .u64 16045690984833335023)⟩,
  ⟨341, 39, 1, true, false, List.replicate 12 (.int .u64 16045690984833335023)⟩,
  ⟨347, 39, 1, true, false, List.replicate 12 (.int .u64 16045690984833335023)⟩,
  ⟨353, 39, 1, true, false, List.replicate 12 (.int .u64 16045690984833335023)⟩,
  ⟨359, 39, 1, true, false, List.replicate 12 (.int .u64 16045690984833335023)⟩,
  ⟨365, 39, 1, true, false, List.replicate 12 (.int .u64 16045690984833335023)⟩]
noncomputable def d30_nw1 : List Ev.NO := [
  ⟨371, 39, 1, true, false, List.replicate 12 (.int .u64 16045690984833335023)⟩,
  ⟨377, 39, 1, true, false, List.replicate 12 (.int .u64 16045690984833335023)⟩,
  ⟨383, 39, 1, true, false, List.replicate 12 (.int .u64 16045690984833335023)⟩,
  ⟨389, 39, 1, true, false, List.replicate 12 (.int .u64 16045690984833335023)⟩,
  ⟨397, 39, 1, true, false, List.replicate 24 (.int .u64 16045690984833335023)⟩,
  ⟨403, 39, 1, true, false, List.replicate 24 (.int .u64 16045690984833335023)⟩,
  ⟨409, 39, 1, true, false, List.replicate 24 (.int .u64 16045690984833335023)⟩,
  ⟨415, 39, 1, true, false, List.replicate 24 (.int .u64 16045690984833335023)⟩,
  ⟨421, 39, 1, true, false, List.replicate 24 (.int .u64 16045690984833335023)⟩,
  ⟨427, 39, 1, true, false, List.replicate 24 (.int .u64 16045690984833335023)⟩,
  ⟨433, 39, 1, true, false, List.replicate 24 (.int .u64 16045690984833335023)⟩,
  ⟨439, 39, 1, true, false, List.replicate 24 (.int .u64 16045690984833335023)⟩,
  ⟨447, 39, 1, true, false, List.replicate 88 (.int .u64 16045690984833335023)⟩,
  ⟨453, 39, 1, true, false, List.replicate 88 (.int .u64 16045690984833335023)⟩,
  ⟨459, 39, 1, true, false, List.replicate 88 (.int .u64 16045690984833335023)⟩,
  ⟨465, 39, 1, true, false, List.replicate 88 (.int .u64 16045690984833335023)⟩,
  ⟨473, 39, 1, true, false, [.int .u64 0, .int .u64 4] ++ List.replicate 262 (.int .u64 0)⟩,
  ⟨479, 39, 1, true, false, List.replicate 264 (.int .u64 16045690984833335023)⟩,
  ⟨2, 180, 4, true, false, [.int .i64 0, .int .i64 1, .bool false, .slice (some ⟨0, 0, none⟩) 8 8, .int .i64 0, .int .i64 1, .bool false, .slice (some ⟨1, 0, none⟩) 8 8, .int .i64 0, .int .i64 1, .bool false, .slice (some ⟨2, 0, none⟩) 8 8, .int .i64 0, .int .i64 1, .bool false, .slice (some ⟨3, 0, none⟩) 8 8, .int .i64 0, .int .i64 1, .bool false, .slice (some ⟨4, 0, none⟩) 8 8, .int .i64 0, .int .i64 1, .bool false, .slice (some ⟨5, 0, none⟩) 8 8, .int .i64 0, .int .i64 1, .bool false, .slice (some ⟨6, 0, none⟩) 8 8, .int .i64 0, .int .i64 1, .bool false, .slice (some ⟨7, 0, none⟩) 8 8, .int .i64 0, .int .i64 1, .bool false, .slice (some ⟨8, 0, none⟩) 8 8, .int .i64 0, .int .i64 1, .bool false, .slice (some ⟨9, 0, none⟩) 8 8, .int .i64 0, .int .i64 1, .bool false, .slice (some ⟨10, 0, none⟩) 8 8, .int .i64 0, .int .i64 1, .bool false, .slice (some ⟨11, 0, none⟩) 8 8, .int .i64 0, .int .i64 1, .bool false, .slice (some ⟨12, 0, none⟩) 8 8, .int .i64 0, .int .i64 1, .bool false, .slice (some ⟨13, 0, none⟩) 8 8, .int .i64 0, .int .i64 1, .bool false, .slice (some ⟨14, 0, none⟩) 8 8, .int .i64 0, .int .i64 1, .bool false, .slice (some ⟨15, 0, none⟩) 8 8, .int .i64 0, .int .i64 1, .bool false, .slice (some ⟨16, 0, none⟩) 8 8, .int .i64 0, .int .i64 1, .bool false, .slice (some ⟨17, 0, none⟩) 8 8, .int .i64 0, .int .i64 1, .bool false, .slice (some ⟨18, 0, none⟩) 8 8, .int .i64 0, .int .i64 1, .bool false, .slice (some ⟨19, 0, none⟩) 8 8, .int .i64 0, .int .i64 1, .bool false, .slice (some ⟨20, 0, none⟩) 8 8, .int .i64 0, .int .i64 1, .bool false, .slice (some ⟨21, 0, none⟩) 8 8, .int .i64 0, .int .i64 1, .bool false, .slice (some ⟨22, 0, none⟩) 8 8, .int .i64 0, .int .i64 1, .bool false, .slice (some ⟨23, 0, none⟩) 8 8, .int .i64 0, .int .i64 1, .bool false, .slice (some ⟨24, 0, none⟩) 8 8, .int .i64 0, .int .i64 1, .bool false, .slice (some ⟨25, 0, none⟩) 8 8, .int .i64 0, .int .i64 1, .bool false, .slice (some ⟨26, 0, none⟩) 8 8, .int .i64 0, .int .i64 1, .bool false, .slice (some ⟨27, 0, none⟩) 8 8, .int .i64 0, .int .i64 1, .bool false, .slice (some ⟨28, 0, none⟩) 8 8, .int .i64 0, .int .i64 1, .bool false, .slice (some ⟨29, 0, none⟩) 8 8, .int .i64 0, .int .i64 1, .bool false, .slice (some ⟨30, 0, none⟩) 8 8, .int .i64 0, .int .i64 1, .bool false, .slice (some ⟨31, 0, none⟩) 8 8, .int .i64 0, .int .i64 1, .bool false, .slice (some ⟨32, 0, none⟩) 8 8, .int .i64 0, .int .i64 1, .bool false, .slice (some ⟨33, 0, none⟩) 8 8, .int .i64 0, .int .i64 1, .bool false, .slice (some ⟨34, 0, none⟩) 8 8, .int .i64 0, .int .i64 1, .bool false, .slice (some ⟨35, 0, none⟩) 8 8, .int .i64 0, .int .i64 1, .bool false, .slice (some ⟨36, 0, none⟩) 8 8, .int .i64 0, .int .i64 1, .bool false, .slice (some ⟨37, 0, none⟩) 8 8, .int .i64 0, .int .i64 1, .bool false, .slice (some ⟨38, 0, none⟩) 8 8, .int .i64 0, .int .i64 1, .bool false, .slice (some ⟨39, 0, none⟩) 8 8, .int .i64 1, .int .i64 1, .bool false, .slice (some ⟨40, 0, none⟩) 12 12, .int .i64 1, .int .i64 1, .bool false, .slice (some ⟨41, 0, none⟩) 12 12, .int .i64 1, .int .i64 1, .bool false, .slice (some ⟨42, 0, none⟩) 12 12, .int .i64 1, .int .i64 1, .bool false, .slice (some ⟨43, 0, none⟩) 12 12, .int .i64 1, .int .i64 1, .bool false, .slice (some ⟨44, 0, none⟩) 12 12, .int .i64 1, .int .i64 1, .bool false, .slice (some ⟨45, 0, none⟩) 12 12, .int .i64 1, .int .i64 1, .bool false, .slice (some ⟨46, 0, none⟩) 12 12, .int .i64 1, .int .i64 1, .bool false, .slice (some ⟨47, 0, none⟩) 12 12, .int .i64 1, .int .i64 1, .bool false, .slice (some ⟨48, 0, none⟩) 12 12, .int .i64 1, .int .i64 1, .bool false, .slice (some ⟨49, 0, none⟩) 12 12, .int .i64 1, .int .i64 1, .bool false, .slice (some ⟨50, 0, none⟩) 12 12, .int .i64 1, .int .i64 1, .bool false, .slice (some ⟨51, 0, none⟩) 12 12, .int .i64 1, .int .i64 1, .bool false, .slice (some ⟨52, 0, none⟩) 12 12, .int .i64 1, .int .i64 1, .bool false, .slice (some ⟨53, 0, none⟩) 12 12, .int .i64 1, .int .i64 1, .bool false, .slice (some ⟨54, 0, none⟩) 12 12, .int .i64 1, .int .i64 1, .bool false, .slice (some ⟨55, 0, none⟩) 12 12, .int .i64 1, .int .i64 1, .bool false, .slice (some ⟨56, 0, none⟩) 12 12, .int .i64 1, .int .i64 1, .bool false, .slice (some ⟨57, 0, none⟩) 12 12, .int .i64 1, .int .i64 1, .bool false, .slice (some ⟨58, 0, none⟩) 12 12, .int .i64 1, .int .i64 1, .bool false, .slice (some ⟨59, 0, none⟩) 12 12, .int .i64 1, .int .i64 1, .bool false, .slice (some ⟨60, 0, none⟩) 12 12, .int .i64 1, .int .i64 1, .bool false, .slice (some ⟨61, 0, none⟩) 12 12, .int .i64 1, .int .i64 1, .bool false, .slice (some ⟨62, 0, none⟩) 12 12, .int .i64 1, .int .i64 1, .bool false, .slice (some ⟨63, 0, none⟩) 12 12, .int .i64 2, .int .i64 1, .bool false, .slice (some ⟨64, 0, none⟩) 24 24, .int .i64 2, .int .i64 1, .bool false, .slice (some ⟨65, 0, none⟩) 24 24, .int .i64 2, .int .i64 1, .bool false, .slice (some ⟨66, 0, none⟩) 24 24, .int .i64 2, .int .i64 1, .bool false, .slice (some ⟨67, 0, none⟩) 24 24, .int .i64 2, .int .i64 1, .bool false, .slice (some ⟨68, 0, none⟩) 24 24, .int .i64 2, .int .i64 1, .bool false, .slice (some ⟨69, 0, none⟩) 24 24, .int .i64 2, .int .i64 1, .bool false, .slice (some ⟨70, 0, none⟩) 24 24, .int .i64 2, .int .i64 1, .bool false, .slice (some ⟨71, 0, none⟩) 24 24, .int .i64 3, .int .i64 1, .bool false, .slice (some ⟨72, 0, none⟩) 88 88, .int .i64 3, .int .i64 1, .bool false, .slice (some ⟨73, 0, none⟩) 88 88, .int .i64 3, .int .i64 1, .bool false, .slice (some ⟨74, 0, none⟩) 88 88, .int .i64 3, .int .i64 1, .bool false, .slice (some ⟨75, 0, none⟩) 88 88, .int .i64 4, .int .i64 1, .bool true, .slice (some ⟨76, 0, none⟩) 264 264, .int .i64 4, .int .i64 1, .bool false, .slice (some ⟨77, 0, none⟩) 264 264]⟩,
  ⟨241, 3, 1, true, true, [.int .i64 0, .int .i64 1, .int .i64 2, .int .i64 3, .int .i64 4, .int .i64 5, .int .i64 6, .int .i64 7, .int .i64 8, .int .i64 9, .int .i64 10, .int .i64 11, .int .i64 12, .int .i64 13, .int .i64 14, .int .i64 15, .int .i64 16, .int .i64 17, .int .i64 18, .int .i64 19, .int .i64 20, .int .i64 21, .int .i64 22, .int .i64 23, .int .i64 24, .int .i64 25, .int .i64 26, .int .i64 27, .int .i64 28, .int .i64 29, .int .i64 30, .int .i64 31, .int .i64 32, .int .i64 33, .int .i64 34, .int .i64 35, .int .i64 36, .int .i64 37, .int .i64 38, .int .i64 39]⟩,
  ⟨4, 4, 1, true, false, List.replicate 40 (.bool true) ++ List.replicate 38 (.bool false)⟩,
  ⟨5, 238, 0, true, false, [.slice (some ⟨79, 0, none⟩) 40 40, .slice (some ⟨80, 0, none⟩) 78 78]⟩,
  ⟨387, 3, 1, true, true, [.int .i64 40, .int .i64 41, .int .i64 42, .int .i64 43, .int .i64 44, .int .i64 45, .int .i64 46, .int .i64 47, .int .i64 48, .int .i64 49, .int .i64 50, .int .i64 51, .int .i64 52, .int .i64 53, .int .i64 54, .int .i64 55, .int .i64 56, .int .i64 57, .int .i64 58, .int .i64 59, .int .i64 60, .int .i64 61, .int .i64 62, .int .i64 63]⟩,
  ⟨246, 4, 1, true, false, List.replicate 40 (.bool false) ++ List.replicate 24 (.bool true) ++ List.replicate 14 (.bool false)⟩,
  ⟨247, 238, 0, true, false, [.slice (some ⟨82, 0, none⟩) 24 24, .slice (some ⟨83, 0, none⟩) 78 78]⟩,
  ⟨437, 3, 1, true, true, [.int .i64 64, .int .i64 65, .int .i64 66, .int .i64 67, .int .i64 68, .int .i64 69, .int .i64 70, .int .i64 71]⟩,
  ⟨392, 4, 1, true, false, List.replicate 64 (.bool false) ++ List.replicate 8 (.bool true) ++ List.replicate 6 (.bool false)⟩,
  ⟨393, 238, 0, true, false, [.slice (some ⟨85, 0, none⟩) 8 8, .slice (some ⟨86, 0, none⟩) 78 78]⟩,
  ⟨463, 3, 1, true, true, [.int .i64 72, .int .i64 73, .int .i64 74, .int .i64 75]⟩,
  ⟨442, 4, 1, true, false, List.replicate 72 (.bool false) ++ [.bool true, .bool true, .bool true, .bool true, .bool false, .bool false]⟩,
  ⟨443, 238, 0, true, false, [.slice (some ⟨88, 0, none⟩) 4 4, .slice (some ⟨89, 0, none⟩) 78 78]⟩,
  ⟨477, 3, 1, true, true, [.int .i64 77, .int .i64 76]⟩,
  ⟨468, 4, 1, true, false, List.replicate 77 (.bool false) ++ [.bool true]⟩,
  ⟨469, 238, 0, true, false, [.slice (some ⟨91, 0, none⟩) 1 2, .slice (some ⟨92, 0, none⟩) 78 78]⟩,
  ⟨3, 176, 0, true, false, [.slice (some ⟨78, 0, none⟩) 78 78, .pointer (some ⟨81, 0, none⟩), .pointer (some ⟨84, 0, none⟩), .pointer (some ⟨87, 0, none⟩), .pointer (some ⟨90, 0, none⟩), .pointer (some ⟨93, 0, none⟩)]⟩,
  ⟨482, 187, 2, true, false, [.int .i64 (-1), .slice none 0 0, .int .i64 (-1), .slice none 0 0, .int .i64 (-1), .slice none 0 0, .int .i64 (-1), .slice none 0 0]⟩,
  ⟨483, 184, 0, true, false, [.int .i64 0, .int .i64 8, .slice (some ⟨95, 0, none⟩) 4 4]⟩,
  ⟨488, 104, 0, true, false, [.pointer (some ⟨94, 0, none⟩), .pointer (some ⟨96, 0, none⟩), .int .i64 65612, .int .i64 4, .int .i64 (-1)]⟩]
noncomputable def d30_nw : List Ev.NO := d30_nw0 ++ d30_nw1
noncomputable def d30_pa : List (Nat × Nat × Nat) := []
noncomputable def d30_pl : List (Nat × Nat × Nat × Nat) := []
noncomputable def d30_m : Ev.SMemo := ⟨30, [.agg #[.int .i64 40, .int .i64 24, .int .i64 8, .int .i64 4, .int .i64 2, .int .i64 4, .int .i64 8, .int .i64 1]], d30_l0, d30_pa, d30_pl, .tuple #[.pointer (some ⟨97, 0, none⟩), .int .i64 0], d30_chg, d30_nw⟩
noncomputable def d30_srcT : Ev.Tr Nat := (.node 9 (.node 15 (.node 27 (.node 51 (.node 99 (.node 195 (.node 389 .leaf .leaf) (.node 482 .leaf .leaf)) (.node 293 (.node 241 .leaf .leaf) .leaf)) (.node 147 (.node 243 (.node 439 .leaf .leaf) .leaf) (.node 341 (.node 393 .leaf .leaf) .leaf))) (.node 75 (.node 123 (.node 219 (.node 415 .leaf .leaf) .leaf) (.node 317 (.node 246 .leaf .leaf) .leaf)) (.node 171 (.node 269 (.node 465 .leaf .leaf) .leaf) (.node 365 (.node 477 .leaf .leaf) .leaf)))) (.node 39 (.node 63 (.node 111 (.node 207 (.node 403 .leaf .leaf) (.node 488 .leaf .leaf)) (.node 305 (.node 5 .leaf .leaf) .leaf)) (.node 159 (.node 257 (.node 453 .leaf .leaf) .leaf) (.node 353 (.node 442 .leaf .leaf) .leaf))) (.node 87 (.node 135 (.node 231 (.node 427 .leaf .leaf) .leaf) (.node 329 (.node 437 .leaf .leaf) .leaf)) (.node 183 (.node 281 (.node 479 .leaf .leaf) .leaf) (.node 377 (.node 469 .leaf .leaf) .leaf))))) (.node 21 (.node 33 (.node 57 (.node 105 (.node 201 (.node 397 .leaf .leaf) (.node 483 .leaf .leaf)) (.node 299 (.node 4 .leaf .leaf) .leaf)) (.node 153 (.node 251 (.node 447 .leaf .leaf) .leaf) (.node 347 (.node 463 .leaf .leaf) .leaf))) (.node 81 (.node 129 (.node 225 (.node 421 .leaf .leaf) .leaf) (.node 323 (.node 247 .leaf .leaf) .leaf)) (.node 177 (.node 275 (.node 473 .leaf .leaf) .leaf) (.node 371 (.node 468 .leaf .leaf) .leaf)))) (.node 45 (.node 69 (.node 117 (.node 213 (.node 409 .leaf .leaf) .leaf) (.node 311 (.node 387 .leaf .leaf) .leaf)) (.node 165 (.node 263 (.node 459 .leaf .leaf) .leaf) (.node 359 (.node 443 .leaf .leaf) .leaf))) (.node 93 (.node 141 (.node 237 (.node 433 .leaf .leaf) .leaf) (.node 335 (.node 392 .leaf .leaf) .leaf)) (.node 189 (.node 287 (.node 2 .leaf .leaf) .leaf) (.node 383 (.node 3 .leaf .leaf) .leaf))))))
noncomputable def d30_invT : Ev.Tr Nat := (.node 0 (.node 0 (.node 94 (.node 0 (.node 1 (.node 0 (.node 9 (.node 0 .leaf (.node 62 .leaf .leaf)) (.node 0 .leaf (.node 72 .leaf .leaf))) (.node 0 (.node 25 (.node 46 .leaf .leaf) (.node 67 .leaf .leaf)) (.node 0 .leaf (.node 77 .leaf .leaf)))) (.node 0 (.node 0 .leaf (.node 33 (.node 54 .leaf .leaf) (.node 88 .leaf .leaf))) (.node 17 .leaf .leaf))) (.node 0 (.node 5 (.node 0 (.node 21 (.node 42 .leaf .leaf) .leaf) .leaf) (.node 0 .leaf (.node 37 (.node 58 .leaf .leaf) .leaf))) (.node 0 (.node 13 .leaf .leaf) (.node 0 (.node 29 (.node 50 .leaf .leaf) (.node 71 .leaf .leaf)) (.node 84 .leaf .leaf))))) (.node 0 (.node 0 (.node 0 (.node 0 (.node 0 .leaf (.node 82 .leaf .leaf)) (.node 31 (.node 52 .leaf .leaf) .leaf)) (.node 15 .leaf (.node 0 .leaf (.node 96 .leaf .leaf)))) (.node 7 (.node 0 (.node 23 (.node 44 .leaf .leaf) (.node 65 .leaf .leaf)) .leaf) (.node 0 .leaf (.node 39 (.node 60 .leaf .leaf) .leaf)))) (.node 3 (.node 0 (.node 11 .leaf (.node 0 .leaf (.node 74 .leaf .leaf))) (.node 0 (.node 27 (.node 48 .leaf .leaf) (.node 69 .leaf .leaf)) .leaf)) (.node 0 (.node 0 .leaf (.node 35 (.node 56 .leaf .leaf) .leaf)) (.node 19 (.node 0 .leaf (.node 90 .leaf .leaf)) (.node 40 .leaf .leaf)))))) (.node 81 (.node 0 (.node 0 (.node 4 (.node 0 (.node 20 (.node 41 .leaf .leaf) .leaf) .leaf) (.node 0 .leaf (.node 36 (.node 57 .leaf .leaf) .leaf))) (.node 0 (.node 12 .leaf (.node 0 .leaf (.node 75 .leaf .leaf))) (.node 0 (.node 28 (.node 49 .leaf .leaf) (.node 70 .leaf .leaf)) (.node 79 .leaf .leaf)))) (.node 0 (.node 0 (.node 0 (.node 0 .leaf (.node 87 .leaf .leaf)) (.node 32 (.node 53 .leaf .leaf) .leaf)) (.node 16 .leaf .leaf)) (.node 8 (.node 0 (.node 24 (.node 45 .leaf .leaf) (.node 66 .leaf .leaf)) (.node 0 .leaf (.node 76 .leaf .leaf))) (.node 0 .leaf (.node 0 (.node 61 .leaf .leaf) .leaf))))) (.node 0 (.node 2 (.node 0 (.node 10 (.node 0 .leaf (.node 63 .leaf .leaf)) (.node 0 .leaf (.node 73 .leaf .leaf))) (.node 0 (.node 26 (.node 47 .leaf .leaf) (.node 68 .leaf .leaf)) .leaf)) (.node 0 (.node 0 .leaf (.node 34 (.node 55 .leaf .leaf) (.node 93 .leaf .leaf))) (.node 18 (.node 0 .leaf (.node 85 .leaf .leaf)) .leaf))) (.node 0 (.node 6 (.node 0 (.node 22 (.node 43 .leaf .leaf) (.node 64 .leaf .leaf)) .leaf) (.node 0 .leaf (.node 38 (.node 59 .leaf .leaf) .leaf))) (.node 0 (.node 14 .leaf (.node 0 .leaf (.node 91 .leaf .leaf))) (.node 0 (.node 30 (.node 51 .leaf .leaf) .leaf) .leaf)))))) (.node 78 (.node 80 (.node 0 .leaf (.node 0 (.node 0 (.node 0 (.node 0 .leaf (.node 86 .leaf .leaf)) .leaf) (.node 0 .leaf (.node 0 .leaf (.node 97 .leaf .leaf)))) .leaf)) (.node 0 (.node 0 .leaf (.node 0 (.node 0 .leaf (.node 0 .leaf (.node 92 .leaf .leaf))) .leaf)) .leaf)) (.node 0 (.node 0 (.node 0 (.node 0 .leaf (.node 0 .leaf (.node 0 .leaf (.node 95 .leaf .leaf)))) .leaf) (.node 0 .leaf (.node 0 .leaf (.node 0 (.node 0 .leaf (.node 89 .leaf .leaf)) .leaf)))) (.node 0 (.node 0 .leaf (.node 0 .leaf (.node 0 .leaf (.node 83 .leaf .leaf)))) .leaf))))
theorem d30_chk : Ev.chkEnd d30_m (Ev.Tr.get 0 d30_srcT) (Ev.Tr.get 0 d30_invT) (@Ev.runF Ev.noSym Tryz.prog orcA 400000 (.fn d30_m.g (Ev.mapBL (fun i => 0 + i) d30_m.args) (Ev.layAll Ev.st0 d30_m.l0))) = true := by kernel_rfl
theorem d30_sok [Ev.Tok] : letI : Ev.Sym := Ev.noSym; Ev.SOk Tryz.prog d30_m := by
  letI : Ev.Sym := Ev.noSym
  exact Ev.smemo_sok (Ev.noSym_ok _) orcA_ok mixed d30_chk
end Go.Proofs.YtjhkgjcgaeljkaaGreat
