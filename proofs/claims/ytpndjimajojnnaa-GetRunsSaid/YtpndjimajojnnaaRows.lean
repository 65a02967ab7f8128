/-
  No cell of these rows narrows 'for every input' (looked for: loops, veiled, ifaces, maps, wideKeys, modest, calm, conditions, laid).
  DERIVED. THE GIVEN ROWS OF THIS SEAT. 6 by the template 'for every input the law returns true; each argument reads behind the call as it read before'; 0 by the template 'total and deterministic' (their statements: YtpndjimajojnnaaTotals.lean).
  GIVEN WITH THE SEED: the statements are not yours to turn. If you find one false, say at which input.
  Laid BY PROGRAM, IN A SANDBOX (cutbox-rows.mjs): the forced cells as the released guide's own fill.sh prints them over the translation 15b8421461e18f4a… (all of the seat's roots in one cut). By AI agents, Wed Nov 11 2026. No macro, syntax, notation, axiom, sorry.
-/
import Derived.Test.YtpndjimajojnnaaChecked
import GoSem.Claim
import GoSem.ClaimJoined
import GoSem.ClaimMapViews
import Derived.JoinedTies
import Derived.KernelRfl
namespace Go.Proofs.Ytpndjimajojnnaa
/- THE CELL 'sum', in the pinned program and in every row, IS THE sha256 OF THE DUMP (.gsa) THAT YtpndjimajojnnaaProg.lean LOADS. Nothing in Lean hashes anything: it is a label: what it is worth is what the hold of that sum in a sandbox is worth. -/
noncomputable def Try.pinned : Pinned := { name := "ytpndjimajojnnaa", sum := "15b8421461e18f4aaa503f1038d6ab3dea723d43d0024cbecf94919b8397e760", checked := Try.checked }
namespace Rows
def none {H : Type} : Left H := { results := [], args := [] }

/-- 'tendrillaw7.NodeRuns': WHATEVER THE INPUT: true; the input reads as it did. -/
def nodeRunsSpec : ChangeSpec := { name := "nodeRuns", fn := fun _ => fun
  | [] => { results := [.lit (.bool true)], args := [] }
  | _ => none }
def nodeRunsRow : OpenClaim := { program := "ytpndjimajojnnaa", sum := "15b8421461e18f4aaa503f1038d6ab3dea723d43d0024cbecf94919b8397e760", func := "tendril/tendrillaw7.NodeRuns", spec := "nodeRuns", inPlace := ["slices.overlaps[byte]", "slices.overlaps[int]"], unfollowed := true, recurses := true, apart := false }
def NodeRunsSaid : Prop := nodeRunsRow.holds Try.pinned (OpenSpec.ofChange nodeRunsSpec)

/-- ITS FALSE NEIGHBOUR: 'it returns false'. Refute it at one input. -/
def nodeRunsWrong : ChangeSpec := { name := "nodeRuns", fn := fun _ => fun
  | [] => { results := [.lit (.bool false)], args := [] }
  | _ => none }
def NodeRunsWrongFalsely : Prop := nodeRunsRow.holds Try.pinned (OpenSpec.ofChange nodeRunsWrong)

/-- 'tendrillaw7.NodeBands': WHATEVER THE INPUT: true; the input reads as it did. -/
def nodeBandsSpec : ChangeSpec := { name := "nodeBands", fn := fun _ => fun
  | [d] => { results := [.lit (.bool true)], args := [d] }
  | _ => none }
def nodeBandsRow : OpenClaim := { program := "ytpndjimajojnnaa", sum := "15b8421461e18f4aaa503f1038d6ab3dea723d43d0024cbecf94919b8397e760", func := "tendril/tendrillaw7.NodeBands", spec := "nodeBands", inPlace := ["slices.overlaps[byte]", "slices.overlaps[int]"], unfollowed := true, recurses := true, apart := false }
def NodeBandsSaid : Prop := nodeBandsRow.holds Try.pinned (OpenSpec.ofChange nodeBandsSpec)

/-- ITS FALSE NEIGHBOUR: 'it returns false'. Refute it at one input. -/
def nodeBandsWrong : ChangeSpec := { name := "nodeBands", fn := fun _ => fun
  | [d] => { results := [.lit (.bool false)], args := [d] }
  | _ => none }
def NodeBandsWrongFalsely : Prop := nodeBandsRow.holds Try.pinned (OpenSpec.ofChange nodeBandsWrong)

/-- 'tendrillaw7.NodeFull': WHATEVER THE INPUT: true; the input reads as it did. -/
def nodeFullSpec : ChangeSpec := { name := "nodeFull", fn := fun _ => fun
  | [d1, d2] => { results := [.lit (.bool true)], args := [d1, d2] }
  | _ => none }
def nodeFullRow : OpenClaim := { program := "ytpndjimajojnnaa", sum := "15b8421461e18f4aaa503f1038d6ab3dea723d43d0024cbecf94919b8397e760", func := "tendril/tendrillaw7.NodeFull", spec := "nodeFull", inPlace := ["slices.overlaps[byte]", "slices.overlaps[int]"], unfollowed := true, recurses := true, apart := false }
def NodeFullSaid : Prop := nodeFullRow.holds Try.pinned (OpenSpec.ofChange nodeFullSpec)

/-- ITS FALSE NEIGHBOUR: 'it returns false'. Refute it at one input. -/
def nodeFullWrong : ChangeSpec := { name := "nodeFull", fn := fun _ => fun
  | [d1, d2] => { results := [.lit (.bool false)], args := [d1, d2] }
  | _ => none }
def NodeFullWrongFalsely : Prop := nodeFullRow.holds Try.pinned (OpenSpec.ofChange nodeFullWrong)

/-- 'tendrillaw10.GetRuns': WHATEVER THE INPUT: true; the input reads as it did. -/
def getRunsSpec : ChangeSpec := { name := "getRuns", fn := fun _ => fun
  | [] => { results := [.lit (.bool true)], args := [] }
  | _ => none }
def getRunsRow : OpenClaim := { program := "ytpndjimajojnnaa", sum := "15b8421461e18f4aaa503f1038d6ab3dea723d43d0024cbecf94919b8397e760", func := "tendril/tendrillaw10.GetRuns", spec := "getRuns", inPlace := ["internal/bytealg.IndexByteString", "internal/bytealg.IndexString"], unfollowed := true, recurses := true, named := ["internal/bytealg.MaxLen"], apart := false }
def GetRunsSaid : Prop := getRunsRow.holds Try.pinned (OpenSpec.ofChange getRunsSpec)

/-- ITS FALSE NEIGHBOUR: 'it returns false'. Refute it at one input. -/
def getRunsWrong : ChangeSpec := { name := "getRuns", fn := fun _ => fun
  | [] => { results := [.lit (.bool false)], args := [] }
  | _ => none }
def GetRunsWrongFalsely : Prop := getRunsRow.holds Try.pinned (OpenSpec.ofChange getRunsWrong)

/-- 'tendrillaw9.MemFrees': WHATEVER THE INPUT: true; the input reads as it did. -/
def memFreesSpec : ChangeSpec := { name := "memFrees", fn := fun _ => fun
  | [d1, d2, d3] => { results := [.lit (.bool true)], args := [d1, d2, d3] }
  | _ => none }
def memFreesRow : OpenClaim := { program := "ytpndjimajojnnaa", sum := "15b8421461e18f4aaa503f1038d6ab3dea723d43d0024cbecf94919b8397e760", func := "tendril/tendrillaw9.MemFrees", spec := "memFrees", unfollowed := true, recurses := true, apart := false }
def MemFreesSaid : Prop := memFreesRow.holds Try.pinned (OpenSpec.ofChange memFreesSpec)

/-- ITS FALSE NEIGHBOUR: 'it returns false'. Refute it at one input. -/
def memFreesWrong : ChangeSpec := { name := "memFrees", fn := fun _ => fun
  | [d1, d2, d3] => { results := [.lit (.bool false)], args := [d1, d2, d3] }
  | _ => none }
def MemFreesWrongFalsely : Prop := memFreesRow.holds Try.pinned (OpenSpec.ofChange memFreesWrong)

/-- 'tendrillaw14.TickWaits': WHATEVER THE INPUT: true; the input reads as it did. -/
def tickWaitsSpec : ChangeSpec := { name := "tickWaits", fn := fun _ => fun
  | [d1, d2, d3] => { results := [.lit (.bool true)], args := [d1, d2, d3] }
  | _ => none }
def tickWaitsRow : OpenClaim := { program := "ytpndjimajojnnaa", sum := "15b8421461e18f4aaa503f1038d6ab3dea723d43d0024cbecf94919b8397e760", func := "tendril/tendrillaw14.TickWaits", spec := "tickWaits", unfollowed := true, recurses := true, apart := false }
def TickWaitsSaid : Prop := tickWaitsRow.holds Try.pinned (OpenSpec.ofChange tickWaitsSpec)

/-- ITS FALSE NEIGHBOUR: 'it returns false'. Refute it at one input. -/
def tickWaitsWrong : ChangeSpec := { name := "tickWaits", fn := fun _ => fun
  | [d1, d2, d3] => { results := [.lit (.bool false)], args := [d1, d2, d3] }
  | _ => none }
def TickWaitsWrongFalsely : Prop := tickWaitsRow.holds Try.pinned (OpenSpec.ofChange tickWaitsWrong)

/- THE SECOND FORM. 'bulk': how many values and letters a reading holds, each counted each time it is reached (what is shared counts as often as it is met; a slice's spare places count too). A statement '..UptoSaid' is the law's where the arguments, and the package variables that the reading takes, are together of bulk at most 1048576: NARROWER than '..Said'. Prove '..Said' where nothing that the law and all that it calls make is longer than what came in: it says more and counts as full. Else prove '..UptoSaid'. A law counts once. -/
mutual
def uptoBulk {H : Type} : DataW H → Nat
  | .lit (.string bytes) => bytes.length + 1
  | .lit _ => 1
  | .nil => 1
  | .ptr d => uptoBulk d + 1
  | .slice elems spare => uptoBulkAll elems + uptoBulkAll spare + 1
  | .agg parts => uptoBulkAll parts + 1
  | .iface _ d => uptoBulk d + 1
  | .map entries => uptoBulkEntries entries + 1
  | .held _ => 1
def uptoBulkAll {H : Type} : List (DataW H) → Nat
  | [] => 0
  | d :: r => uptoBulk d + uptoBulkAll r
def uptoBulkEntries {H : Type} : List (Lit × DataW H) → Nat
  | [] => 0
  | x :: r => uptoBulkEntry x + uptoBulkEntries r
def uptoBulkEntry {H : Type} : Lit × DataW H → Nat
  | (.string bytes, d) => bytes.length + uptoBulk d + 1
  | (_, d) => uptoBulk d + 1
 end
def uptoSmall : (H : Type) → List (DataW H) → Bool := fun _ ds => decide (uptoBulkAll ds ≤ 1048576)
def OpenSpec.upto (s : _root_.Go.ChangeSpec) : _root_.Go.OpenSpec := { _root_.Go.OpenSpec.ofChange s with cond := some uptoSmall }

/-- 'tendrillaw7.NodeRuns', WHERE WHAT IT READS IS OF BULK AT MOST 1048576: true; the input reads as it did. -/
def nodeRunsUptoRow : OpenClaim := { program := "ytpndjimajojnnaa", sum := "15b8421461e18f4aaa503f1038d6ab3dea723d43d0024cbecf94919b8397e760", func := "tendril/tendrillaw7.NodeRuns", spec := "nodeRuns", inPlace := ["slices.overlaps[byte]", "slices.overlaps[int]"], unfollowed := true, recurses := true, apart := false, narrowed := true }
def NodeRunsUptoSaid : Prop := nodeRunsUptoRow.holds Try.pinned (OpenSpec.upto nodeRunsSpec)

/-- 'tendrillaw7.NodeBands', WHERE WHAT IT READS IS OF BULK AT MOST 1048576: true; the input reads as it did. -/
def nodeBandsUptoRow : OpenClaim := { program := "ytpndjimajojnnaa", sum := "15b8421461e18f4aaa503f1038d6ab3dea723d43d0024cbecf94919b8397e760", func := "tendril/tendrillaw7.NodeBands", spec := "nodeBands", inPlace := ["slices.overlaps[byte]", "slices.overlaps[int]"], unfollowed := true, recurses := true, apart := false, narrowed := true }
def NodeBandsUptoSaid : Prop := nodeBandsUptoRow.holds Try.pinned (OpenSpec.upto nodeBandsSpec)

/-- 'tendrillaw7.NodeFull', WHERE WHAT IT READS IS OF BULK AT MOST 1048576: true; the input reads as it did. -/
def nodeFullUptoRow : OpenClaim := { program := "ytpndjimajojnnaa", sum := "15b8421461e18f4aaa503f1038d6ab3dea723d43d0024cbecf94919b8397e760", func := "tendril/tendrillaw7.NodeFull", spec := "nodeFull", inPlace := ["slices.overlaps[byte]", "slices.overlaps[int]"], unfollowed := true, recurses := true, apart := false, narrowed := true }
def NodeFullUptoSaid : Prop := nodeFullUptoRow.holds Try.pinned (OpenSpec.upto nodeFullSpec)

/-- 'tendrillaw10.GetRuns', WHERE WHAT IT READS IS OF BULK AT MOST 1048576: true; the input reads as it did. -/
def getRunsUptoRow : OpenClaim := { program := "ytpndjimajojnnaa", sum := "15b8421461e18f4aaa503f1038d6ab3dea723d43d0024cbecf94919b8397e760", func := "tendril/tendrillaw10.GetRuns", spec := "getRuns", inPlace := ["internal/bytealg.IndexByteString", "internal/bytealg.IndexString"], unfollowed := true, recurses := true, named := ["internal/bytealg.MaxLen"], apart := false, narrowed := true }
def GetRunsUptoSaid : Prop := getRunsUptoRow.holds Try.pinned (OpenSpec.upto getRunsSpec)

/-- 'tendrillaw9.MemFrees', WHERE WHAT IT READS IS OF BULK AT MOST 1048576: true; the input reads as it did. -/
def memFreesUptoRow : OpenClaim := { program := "ytpndjimajojnnaa", sum := "15b8421461e18f4aaa503f1038d6ab3dea723d43d0024cbecf94919b8397e760", func := "tendril/tendrillaw9.MemFrees", spec := "memFrees", unfollowed := true, recurses := true, apart := false, narrowed := true }
def MemFreesUptoSaid : Prop := memFreesUptoRow.holds Try.pinned (OpenSpec.upto memFreesSpec)

/-- 'tendrillaw14.TickWaits', WHERE WHAT IT READS IS OF BULK AT MOST 1048576: true; the input reads as it did. -/
def tickWaitsUptoRow : OpenClaim := { program := "ytpndjimajojnnaa", sum := "15b8421461e18f4aaa503f1038d6ab3dea723d43d0024cbecf94919b8397e760", func := "tendril/tendrillaw14.TickWaits", spec := "tickWaits", unfollowed := true, recurses := true, apart := false, narrowed := true }
def TickWaitsUptoSaid : Prop := tickWaitsUptoRow.holds Try.pinned (OpenSpec.upto tickWaitsSpec)

end Rows
end Go.Proofs.Ytpndjimajojnnaa
