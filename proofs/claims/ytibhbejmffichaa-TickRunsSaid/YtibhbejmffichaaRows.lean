/-
  No cell of these rows narrows 'for every input' (looked for: loops, veiled, ifaces, maps, wideKeys, modest, calm, conditions, laid).
  DERIVED. THE GIVEN ROWS OF THIS SEAT. 17 by the template 'for every input the law returns true; each argument reads behind the call as it read before'; 0 by the template 'total and deterministic' (their statements: YtibhbejmffichaaTotals.lean).
  GIVEN WITH THE SEED: the statements are not yours to turn. If you find one false, say at which input.
  Laid BY PROGRAM, IN A SANDBOX (cutbox-rows.mjs): the forced cells as the released guide's own fill.sh prints them over the translation cf005d844b0c8d6d… (all of the seat's roots in one cut). By AI agents, Wed Nov 11 2026. No macro, syntax, notation, axiom, sorry.
-/
import Derived.Test.YtibhbejmffichaaChecked
import GoSem.Claim
import GoSem.ClaimJoined
import GoSem.ClaimMapViews
import Derived.JoinedTies
import Derived.KernelRfl
namespace Go.Proofs.Ytibhbejmffichaa
/- THE CELL 'sum', in the pinned program and in every row, IS THE sha256 OF THE DUMP (.gsa) THAT YtibhbejmffichaaProg.lean LOADS. Nothing in Lean hashes anything: it is a label: what it is worth is what the hold of that sum in a sandbox is worth. -/
noncomputable def Try.pinned : Pinned := { name := "ytibhbejmffichaa", sum := "cf005d844b0c8d6d931446f01230f4f56301d8a0753c04a76cfa714f68409a9d", checked := Try.checked }
namespace Rows
def none {H : Type} : Left H := { results := [], args := [] }

/-- 'tendrillaw1.WordRuns': WHATEVER THE INPUT: true; the input reads as it did. -/
def wordRunsSpec : ChangeSpec := { name := "wordRuns", fn := fun _ => fun
  | [] => { results := [.lit (.bool true)], args := [] }
  | _ => none }
def wordRunsRow : OpenClaim := { program := "ytibhbejmffichaa", sum := "cf005d844b0c8d6d931446f01230f4f56301d8a0753c04a76cfa714f68409a9d", func := "tendril/tendrillaw1.WordRuns", spec := "wordRuns", plainKeys := false, apart := false }
def WordRunsSaid : Prop := wordRunsRow.holds Try.pinned (OpenSpec.ofChange wordRunsSpec)

/-- ITS FALSE NEIGHBOUR: 'it returns false'. Refute it at one input. -/
def wordRunsWrong : ChangeSpec := { name := "wordRuns", fn := fun _ => fun
  | [] => { results := [.lit (.bool false)], args := [] }
  | _ => none }
def WordRunsWrongFalsely : Prop := wordRunsRow.holds Try.pinned (OpenSpec.ofChange wordRunsWrong)

/-- 'tendrillaw2.PackRuns': WHATEVER THE INPUT: true; the input reads as it did. -/
def packRunsSpec : ChangeSpec := { name := "packRuns", fn := fun _ => fun
  | [] => { results := [.lit (.bool true)], args := [] }
  | _ => none }
def packRunsRow : OpenClaim := { program := "ytibhbejmffichaa", sum := "cf005d844b0c8d6d931446f01230f4f56301d8a0753c04a76cfa714f68409a9d", func := "tendril/tendrillaw2.PackRuns", spec := "packRuns", plainKeys := false, apart := false }
def PackRunsSaid : Prop := packRunsRow.holds Try.pinned (OpenSpec.ofChange packRunsSpec)

/-- ITS FALSE NEIGHBOUR: 'it returns false'. Refute it at one input. -/
def packRunsWrong : ChangeSpec := { name := "packRuns", fn := fun _ => fun
  | [] => { results := [.lit (.bool false)], args := [] }
  | _ => none }
def PackRunsWrongFalsely : Prop := packRunsRow.holds Try.pinned (OpenSpec.ofChange packRunsWrong)

/-- 'tendrillaw3.PoolRuns': WHATEVER THE INPUT: true; the input reads as it did. -/
def poolRunsSpec : ChangeSpec := { name := "poolRuns", fn := fun _ => fun
  | [] => { results := [.lit (.bool true)], args := [] }
  | _ => none }
def poolRunsRow : OpenClaim := { program := "ytibhbejmffichaa", sum := "cf005d844b0c8d6d931446f01230f4f56301d8a0753c04a76cfa714f68409a9d", func := "tendril/tendrillaw3.PoolRuns", spec := "poolRuns", unfollowed := true, recurses := true, plainKeys := false, apart := false }
def PoolRunsSaid : Prop := poolRunsRow.holds Try.pinned (OpenSpec.ofChange poolRunsSpec)

/-- ITS FALSE NEIGHBOUR: 'it returns false'. Refute it at one input. -/
def poolRunsWrong : ChangeSpec := { name := "poolRuns", fn := fun _ => fun
  | [] => { results := [.lit (.bool false)], args := [] }
  | _ => none }
def PoolRunsWrongFalsely : Prop := poolRunsRow.holds Try.pinned (OpenSpec.ofChange poolRunsWrong)

/-- 'tendrillaw4.ArenaRuns': WHATEVER THE INPUT: true; the input reads as it did. -/
def arenaRunsSpec : ChangeSpec := { name := "arenaRuns", fn := fun _ => fun
  | [] => { results := [.lit (.bool true)], args := [] }
  | _ => none }
def arenaRunsRow : OpenClaim := { program := "ytibhbejmffichaa", sum := "cf005d844b0c8d6d931446f01230f4f56301d8a0753c04a76cfa714f68409a9d", func := "tendril/tendrillaw4.ArenaRuns", spec := "arenaRuns", unfollowed := true, recurses := true, plainKeys := false, apart := false }
def ArenaRunsSaid : Prop := arenaRunsRow.holds Try.pinned (OpenSpec.ofChange arenaRunsSpec)

/-- ITS FALSE NEIGHBOUR: 'it returns false'. Refute it at one input. -/
def arenaRunsWrong : ChangeSpec := { name := "arenaRuns", fn := fun _ => fun
  | [] => { results := [.lit (.bool false)], args := [] }
  | _ => none }
def ArenaRunsWrongFalsely : Prop := arenaRunsRow.holds Try.pinned (OpenSpec.ofChange arenaRunsWrong)

/-- 'tendrillaw5.EpochRuns': WHATEVER THE INPUT: true; the input reads as it did. -/
def epochRunsSpec : ChangeSpec := { name := "epochRuns", fn := fun _ => fun
  | [] => { results := [.lit (.bool true)], args := [] }
  | _ => none }
def epochRunsRow : OpenClaim := { program := "ytibhbejmffichaa", sum := "cf005d844b0c8d6d931446f01230f4f56301d8a0753c04a76cfa714f68409a9d", func := "tendril/tendrillaw5.EpochRuns", spec := "epochRuns", plainKeys := false, apart := false }
def EpochRunsSaid : Prop := epochRunsRow.holds Try.pinned (OpenSpec.ofChange epochRunsSpec)

/-- ITS FALSE NEIGHBOUR: 'it returns false'. Refute it at one input. -/
def epochRunsWrong : ChangeSpec := { name := "epochRuns", fn := fun _ => fun
  | [] => { results := [.lit (.bool false)], args := [] }
  | _ => none }
def EpochRunsWrongFalsely : Prop := epochRunsRow.holds Try.pinned (OpenSpec.ofChange epochRunsWrong)

/-- 'tendrillaw6.TermRuns': WHATEVER THE INPUT: true; the input reads as it did. -/
def termRunsSpec : ChangeSpec := { name := "termRuns", fn := fun _ => fun
  | [] => { results := [.lit (.bool true)], args := [] }
  | _ => none }
def termRunsRow : OpenClaim := { program := "ytibhbejmffichaa", sum := "cf005d844b0c8d6d931446f01230f4f56301d8a0753c04a76cfa714f68409a9d", func := "tendril/tendrillaw6.TermRuns", spec := "termRuns", inPlace := ["internal/bytealg.IndexByteString", "internal/bytealg.IndexString"], named := ["internal/bytealg.MaxLen"], plainKeys := false, apart := false }
def TermRunsSaid : Prop := termRunsRow.holds Try.pinned (OpenSpec.ofChange termRunsSpec)

/-- ITS FALSE NEIGHBOUR: 'it returns false'. Refute it at one input. -/
def termRunsWrong : ChangeSpec := { name := "termRuns", fn := fun _ => fun
  | [] => { results := [.lit (.bool false)], args := [] }
  | _ => none }
def TermRunsWrongFalsely : Prop := termRunsRow.holds Try.pinned (OpenSpec.ofChange termRunsWrong)

/-- 'tendrillaw7.NodeRuns': WHATEVER THE INPUT: true; the input reads as it did. -/
def nodeRunsSpec : ChangeSpec := { name := "nodeRuns", fn := fun _ => fun
  | [] => { results := [.lit (.bool true)], args := [] }
  | _ => none }
def nodeRunsRow : OpenClaim := { program := "ytibhbejmffichaa", sum := "cf005d844b0c8d6d931446f01230f4f56301d8a0753c04a76cfa714f68409a9d", func := "tendril/tendrillaw7.NodeRuns", spec := "nodeRuns", inPlace := ["slices.overlaps[byte]", "slices.overlaps[int]"], unfollowed := true, recurses := true, plainKeys := false, apart := false }
def NodeRunsSaid : Prop := nodeRunsRow.holds Try.pinned (OpenSpec.ofChange nodeRunsSpec)

/-- ITS FALSE NEIGHBOUR: 'it returns false'. Refute it at one input. -/
def nodeRunsWrong : ChangeSpec := { name := "nodeRuns", fn := fun _ => fun
  | [] => { results := [.lit (.bool false)], args := [] }
  | _ => none }
def NodeRunsWrongFalsely : Prop := nodeRunsRow.holds Try.pinned (OpenSpec.ofChange nodeRunsWrong)

/-- 'tendrillaw9.MemRuns': WHATEVER THE INPUT: true; the input reads as it did. -/
def memRunsSpec : ChangeSpec := { name := "memRuns", fn := fun _ => fun
  | [] => { results := [.lit (.bool true)], args := [] }
  | _ => none }
def memRunsRow : OpenClaim := { program := "ytibhbejmffichaa", sum := "cf005d844b0c8d6d931446f01230f4f56301d8a0753c04a76cfa714f68409a9d", func := "tendril/tendrillaw9.MemRuns", spec := "memRuns", unfollowed := true, recurses := true, plainKeys := false, apart := false }
def MemRunsSaid : Prop := memRunsRow.holds Try.pinned (OpenSpec.ofChange memRunsSpec)

/-- ITS FALSE NEIGHBOUR: 'it returns false'. Refute it at one input. -/
def memRunsWrong : ChangeSpec := { name := "memRuns", fn := fun _ => fun
  | [] => { results := [.lit (.bool false)], args := [] }
  | _ => none }
def MemRunsWrongFalsely : Prop := memRunsRow.holds Try.pinned (OpenSpec.ofChange memRunsWrong)

/-- 'tendrillaw10.GetRuns': WHATEVER THE INPUT: true; the input reads as it did. -/
def getRunsSpec : ChangeSpec := { name := "getRuns", fn := fun _ => fun
  | [] => { results := [.lit (.bool true)], args := [] }
  | _ => none }
def getRunsRow : OpenClaim := { program := "ytibhbejmffichaa", sum := "cf005d844b0c8d6d931446f01230f4f56301d8a0753c04a76cfa714f68409a9d", func := "tendril/tendrillaw10.GetRuns", spec := "getRuns", inPlace := ["internal/bytealg.IndexByteString", "internal/bytealg.IndexString"], unfollowed := true, recurses := true, named := ["internal/bytealg.MaxLen"], plainKeys := false, apart := false }
def GetRunsSaid : Prop := getRunsRow.holds Try.pinned (OpenSpec.ofChange getRunsSpec)

/-- ITS FALSE NEIGHBOUR: 'it returns false'. Refute it at one input. -/
def getRunsWrong : ChangeSpec := { name := "getRuns", fn := fun _ => fun
  | [] => { results := [.lit (.bool false)], args := [] }
  | _ => none }
def GetRunsWrongFalsely : Prop := getRunsRow.holds Try.pinned (OpenSpec.ofChange getRunsWrong)

/-- 'tendrillaw11.ScanRuns': WHATEVER THE INPUT: true; the input reads as it did. -/
def scanRunsSpec : ChangeSpec := { name := "scanRuns", fn := fun _ => fun
  | [] => { results := [.lit (.bool true)], args := [] }
  | _ => none }
def scanRunsRow : OpenClaim := { program := "ytibhbejmffichaa", sum := "cf005d844b0c8d6d931446f01230f4f56301d8a0753c04a76cfa714f68409a9d", func := "tendril/tendrillaw11.ScanRuns", spec := "scanRuns", inPlace := ["internal/bytealg.IndexByteString", "internal/bytealg.IndexString"], unfollowed := true, recurses := true, named := ["internal/bytealg.MaxLen"], plainKeys := false, apart := false }
def ScanRunsSaid : Prop := scanRunsRow.holds Try.pinned (OpenSpec.ofChange scanRunsSpec)

/-- ITS FALSE NEIGHBOUR: 'it returns false'. Refute it at one input. -/
def scanRunsWrong : ChangeSpec := { name := "scanRuns", fn := fun _ => fun
  | [] => { results := [.lit (.bool false)], args := [] }
  | _ => none }
def ScanRunsWrongFalsely : Prop := scanRunsRow.holds Try.pinned (OpenSpec.ofChange scanRunsWrong)

/-- 'tendrillaw14.TickRuns': WHATEVER THE INPUT: true; the input reads as it did. -/
def tickRunsSpec : ChangeSpec := { name := "tickRuns", fn := fun _ => fun
  | [] => { results := [.lit (.bool true)], args := [] }
  | _ => none }
def tickRunsRow : OpenClaim := { program := "ytibhbejmffichaa", sum := "cf005d844b0c8d6d931446f01230f4f56301d8a0753c04a76cfa714f68409a9d", func := "tendril/tendrillaw14.TickRuns", spec := "tickRuns", unfollowed := true, recurses := true, plainKeys := false, apart := false }
def TickRunsSaid : Prop := tickRunsRow.holds Try.pinned (OpenSpec.ofChange tickRunsSpec)

/-- ITS FALSE NEIGHBOUR: 'it returns false'. Refute it at one input. -/
def tickRunsWrong : ChangeSpec := { name := "tickRuns", fn := fun _ => fun
  | [] => { results := [.lit (.bool false)], args := [] }
  | _ => none }
def TickRunsWrongFalsely : Prop := tickRunsRow.holds Try.pinned (OpenSpec.ofChange tickRunsWrong)

/-- 'tendrillaw17.LinRuns': WHATEVER THE INPUT: true; the input reads as it did. -/
def linRunsSpec : ChangeSpec := { name := "linRuns", fn := fun _ => fun
  | [] => { results := [.lit (.bool true)], args := [] }
  | _ => none }
def linRunsRow : OpenClaim := { program := "ytibhbejmffichaa", sum := "cf005d844b0c8d6d931446f01230f4f56301d8a0753c04a76cfa714f68409a9d", func := "tendril/tendrillaw17.LinRuns", spec := "linRuns", unfollowed := true, recurses := true, plainKeys := false, apart := false }
def LinRunsSaid : Prop := linRunsRow.holds Try.pinned (OpenSpec.ofChange linRunsSpec)

/-- ITS FALSE NEIGHBOUR: 'it returns false'. Refute it at one input. -/
def linRunsWrong : ChangeSpec := { name := "linRuns", fn := fun _ => fun
  | [] => { results := [.lit (.bool false)], args := [] }
  | _ => none }
def LinRunsWrongFalsely : Prop := linRunsRow.holds Try.pinned (OpenSpec.ofChange linRunsWrong)

/-- 'tendrillaw19.BlockRuns': WHATEVER THE INPUT: true; the input reads as it did. -/
def blockRunsSpec : ChangeSpec := { name := "blockRuns", fn := fun _ => fun
  | [] => { results := [.lit (.bool true)], args := [] }
  | _ => none }
def blockRunsRow : OpenClaim := { program := "ytibhbejmffichaa", sum := "cf005d844b0c8d6d931446f01230f4f56301d8a0753c04a76cfa714f68409a9d", func := "tendril/tendrillaw19.BlockRuns", spec := "blockRuns", plainKeys := false, apart := false }
def BlockRunsSaid : Prop := blockRunsRow.holds Try.pinned (OpenSpec.ofChange blockRunsSpec)

/-- ITS FALSE NEIGHBOUR: 'it returns false'. Refute it at one input. -/
def blockRunsWrong : ChangeSpec := { name := "blockRuns", fn := fun _ => fun
  | [] => { results := [.lit (.bool false)], args := [] }
  | _ => none }
def BlockRunsWrongFalsely : Prop := blockRunsRow.holds Try.pinned (OpenSpec.ofChange blockRunsWrong)

/-- 'tendrillaw20.PostingRuns': WHATEVER THE INPUT: true; the input reads as it did. -/
def postingRunsSpec : ChangeSpec := { name := "postingRuns", fn := fun _ => fun
  | [] => { results := [.lit (.bool true)], args := [] }
  | _ => none }
def postingRunsRow : OpenClaim := { program := "ytibhbejmffichaa", sum := "cf005d844b0c8d6d931446f01230f4f56301d8a0753c04a76cfa714f68409a9d", func := "tendril/tendrillaw20.PostingRuns", spec := "postingRuns", inPlace := ["slices.overlaps[int]"], unfollowed := true, recurses := true, plainKeys := false, apart := false }
def PostingRunsSaid : Prop := postingRunsRow.holds Try.pinned (OpenSpec.ofChange postingRunsSpec)

/-- ITS FALSE NEIGHBOUR: 'it returns false'. Refute it at one input. -/
def postingRunsWrong : ChangeSpec := { name := "postingRuns", fn := fun _ => fun
  | [] => { results := [.lit (.bool false)], args := [] }
  | _ => none }
def PostingRunsWrongFalsely : Prop := postingRunsRow.holds Try.pinned (OpenSpec.ofChange postingRunsWrong)

/-- 'tendrillaw21.MergeRuns': WHATEVER THE INPUT: true; the input reads as it did. -/
def mergeRunsSpec : ChangeSpec := { name := "mergeRuns", fn := fun _ => fun
  | [] => { results := [.lit (.bool true)], args := [] }
  | _ => none }
def mergeRunsRow : OpenClaim := { program := "ytibhbejmffichaa", sum := "cf005d844b0c8d6d931446f01230f4f56301d8a0753c04a76cfa714f68409a9d", func := "tendril/tendrillaw21.MergeRuns", spec := "mergeRuns", unfollowed := true, recurses := true, plainKeys := false, apart := false }
def MergeRunsSaid : Prop := mergeRunsRow.holds Try.pinned (OpenSpec.ofChange mergeRunsSpec)

/-- ITS FALSE NEIGHBOUR: 'it returns false'. Refute it at one input. -/
def mergeRunsWrong : ChangeSpec := { name := "mergeRuns", fn := fun _ => fun
  | [] => { results := [.lit (.bool false)], args := [] }
  | _ => none }
def MergeRunsWrongFalsely : Prop := mergeRunsRow.holds Try.pinned (OpenSpec.ofChange mergeRunsWrong)

/-- 'tendrillaw22.TokenRuns': WHATEVER THE INPUT: true; the input reads as it did. -/
def tokenRunsSpec : ChangeSpec := { name := "tokenRuns", fn := fun _ => fun
  | [] => { results := [.lit (.bool true)], args := [] }
  | _ => none }
def tokenRunsRow : OpenClaim := { program := "ytibhbejmffichaa", sum := "cf005d844b0c8d6d931446f01230f4f56301d8a0753c04a76cfa714f68409a9d", func := "tendril/tendrillaw22.TokenRuns", spec := "tokenRuns", recurses := true, plainKeys := false, apart := false }
def TokenRunsSaid : Prop := tokenRunsRow.holds Try.pinned (OpenSpec.ofChange tokenRunsSpec)

/-- ITS FALSE NEIGHBOUR: 'it returns false'. Refute it at one input. -/
def tokenRunsWrong : ChangeSpec := { name := "tokenRuns", fn := fun _ => fun
  | [] => { results := [.lit (.bool false)], args := [] }
  | _ => none }
def TokenRunsWrongFalsely : Prop := tokenRunsRow.holds Try.pinned (OpenSpec.ofChange tokenRunsWrong)

/-- 'tendrillaw23.QueryRuns': WHATEVER THE INPUT: true; the input reads as it did. -/
def queryRunsSpec : ChangeSpec := { name := "queryRuns", fn := fun _ => fun
  | [] => { results := [.lit (.bool true)], args := [] }
  | _ => none }
def queryRunsRow : OpenClaim := { program := "ytibhbejmffichaa", sum := "cf005d844b0c8d6d931446f01230f4f56301d8a0753c04a76cfa714f68409a9d", func := "tendril/tendrillaw23.QueryRuns", spec := "queryRuns", unfollowed := true, recurses := true, plainKeys := false, apart := false }
def QueryRunsSaid : Prop := queryRunsRow.holds Try.pinned (OpenSpec.ofChange queryRunsSpec)

/-- ITS FALSE NEIGHBOUR: 'it returns false'. Refute it at one input. -/
def queryRunsWrong : ChangeSpec := { name := "queryRuns", fn := fun _ => fun
  | [] => { results := [.lit (.bool false)], args := [] }
  | _ => none }
def QueryRunsWrongFalsely : Prop := queryRunsRow.holds Try.pinned (OpenSpec.ofChange queryRunsWrong)

/- THE SECOND FORM. 'bulk': how many values and letters a reading holds, each counted each time it is reached (what is shared counts as often as it is met; a slice's spare places count too). A statement '..UptoSaid' is the law's where the arguments, and the package variables that the reading takes, are together of bulk at most 1048576: NARROWER than '..Said'. Prove '..Said' where nothing that the law and all that it calls make is longer than what came in: it says more and counts as full. Else prove '..UptoSaid'. A law counts once. -/
mutual
def uptoBulk {H : Type} : DataW H → Nat
  | .lit (.string bytes) => bytes.length + 1
  | .lit _ => 1
  | .nil => 1
  | .ptr d => uptoBulk d + 1
  | .slice elems spare => uptoBulkAll elems + uptoBulkAll spare + 1
  | .agg parts => uptoBulkAll parts + 1
  | .iface _ d => uptoBulk d + 1
  | .map entries => uptoBulkEntries entries + 1
  | .held _ => 1
def uptoBulkAll {H : Type} : List (DataW H) → Nat
  | [] => 0
  | d :: r => uptoBulk d + uptoBulkAll r
def uptoBulkEntries {H : Type} : List (Lit × DataW H) → Nat
  | [] => 0
  | x :: r => uptoBulkEntry x + uptoBulkEntries r
def uptoBulkEntry {H : Type} : Lit × DataW H → Nat
  | (.string bytes, d) => bytes.length + uptoBulk d + 1
  | (_, d) => uptoBulk d + 1
 end
def uptoSmall : (H : Type) → List (DataW H) → Bool := fun _ ds => decide (uptoBulkAll ds ≤ 1048576)
def OpenSpec.upto (s : _root_.Go.ChangeSpec) : _root_.Go.OpenSpec := { _root_.Go.OpenSpec.ofChange s with cond := some uptoSmall }

/-- 'tendrillaw1.WordRuns', WHERE WHAT IT READS IS OF BULK AT MOST 1048576: true; the input reads as it did. -/
def wordRunsUptoRow : OpenClaim := { program := "ytibhbejmffichaa", sum := "cf005d844b0c8d6d931446f01230f4f56301d8a0753c04a76cfa714f68409a9d", func := "tendril/tendrillaw1.WordRuns", spec := "wordRuns", plainKeys := false, apart := false, narrowed := true }
def WordRunsUptoSaid : Prop := wordRunsUptoRow.holds Try.pinned (OpenSpec.upto wordRunsSpec)

/-- 'tendrillaw2.PackRuns', WHERE WHAT IT READS IS OF BULK AT MOST 1048576: true; the input reads as it did. -/
def packRunsUptoRow : OpenClaim := { program := "ytibhbejmffichaa", sum := "cf005d844b0c8d6d931446f01230f4f56301d8a0753c04a76cfa714f68409a9d", func := "tendril/tendrillaw2.PackRuns", spec := "packRuns", plainKeys := false, apart := false, narrowed := true }
def PackRunsUptoSaid : Prop := packRunsUptoRow.holds Try.pinned (OpenSpec.upto packRunsSpec)

/-- 'tendrillaw3.PoolRuns', WHERE WHAT IT READS IS OF BULK AT MOST 1048576: true; the input reads as it did. -/
def poolRunsUptoRow : OpenClaim := { program := "ytibhbejmffichaa", sum := "cf005d844b0c8d6d931446f01230f4f56301d8a0753c04a76cfa714f68409a9d", func := "tendril/tendrillaw3.PoolRuns", spec := "poolRuns", unfollowed := true, recurses := true, plainKeys := false, apart := false, narrowed := true }
def PoolRunsUptoSaid : Prop := poolRunsUptoRow.holds Try.pinned (OpenSpec.upto poolRunsSpec)

/-- 'tendrillaw4.ArenaRuns', WHERE WHAT IT READS IS OF BULK AT MOST 1048576: true; the input reads as it did. -/
def arenaRunsUptoRow : OpenClaim := { program := "ytibhbejmffichaa", sum := "cf005d844b0c8d6d931446f01230f4f56301d8a0753c04a76cfa714f68409a9d", func := "tendril/tendrillaw4.ArenaRuns", spec := "arenaRuns", unfollowed := true, recurses := true, plainKeys := false, apart := false, narrowed := true }
def ArenaRunsUptoSaid : Prop := arenaRunsUptoRow.holds Try.pinned (OpenSpec.upto arenaRunsSpec)

/-- 'tendrillaw5.EpochRuns', WHERE WHAT IT READS IS OF BULK AT MOST 1048576: true; the input reads as it did. -/
def epochRunsUptoRow : OpenClaim := { program := "ytibhbejmffichaa", sum := "cf005d844b0c8d6d931446f01230f4f56301d8a0753c04a76cfa714f68409a9d", func := "tendril/tendrillaw5.EpochRuns", spec := "epochRuns", plainKeys := false, apart := false, narrowed := true }
def EpochRunsUptoSaid : Prop := epochRunsUptoRow.holds Try.pinned (OpenSpec.upto epochRunsSpec)

/-- 'tendrillaw6.TermRuns', WHERE WHAT IT READS IS OF BULK AT MOST 1048576: true; the input reads as it did. -/
def termRunsUptoRow : OpenClaim := { program := "ytibhbejmffichaa", sum := "cf005d844b0c8d6d931446f01230f4f56301d8a0753c04a76cfa714f68409a9d", func := "tendril/tendrillaw6.TermRuns", spec := "termRuns", inPlace := ["internal/bytealg.IndexByteString", "internal/bytealg.IndexString"], named := ["internal/bytealg.MaxLen"], plainKeys := false, apart := false, narrowed := true }
def TermRunsUptoSaid : Prop := termRunsUptoRow.holds Try.pinned (OpenSpec.upto termRunsSpec)

/-- 'tendrillaw7.NodeRuns', WHERE WHAT IT READS IS OF BULK AT MOST 1048576: true; the input reads as it did. -/
def nodeRunsUptoRow : OpenClaim := { program := "ytibhbejmffichaa", sum := "cf005d844b0c8d6d931446f01230f4f56301d8a0753c04a76cfa714f68409a9d", func := "tendril/tendrillaw7.NodeRuns", spec := "nodeRuns", inPlace := ["slices.overlaps[byte]", "slices.overlaps[int]"], unfollowed := true, recurses := true, plainKeys := false, apart := false, narrowed := true }
def NodeRunsUptoSaid : Prop := nodeRunsUptoRow.holds Try.pinned (OpenSpec.upto nodeRunsSpec)

/-- 'tendrillaw9.MemRuns', WHERE WHAT IT READS IS OF BULK AT MOST 1048576: true; the input reads as it did. -/
def memRunsUptoRow : OpenClaim := { program := "ytibhbejmffichaa", sum := "cf005d844b0c8d6d931446f01230f4f56301d8a0753c04a76cfa714f68409a9d", func := "tendril/tendrillaw9.MemRuns", spec := "memRuns", unfollowed := true, recurses := true, plainKeys := false, apart := false, narrowed := true }
def MemRunsUptoSaid : Prop := memRunsUptoRow.holds Try.pinned (OpenSpec.upto memRunsSpec)

/-- 'tendrillaw10.GetRuns', WHERE WHAT IT READS IS OF BULK AT MOST 1048576: true; the input reads as it did. -/
def getRunsUptoRow : OpenClaim := { program := "ytibhbejmffichaa", sum := "cf005d844b0c8d6d931446f01230f4f56301d8a0753c04a76cfa714f68409a9d", func := "tendril/tendrillaw10.GetRuns", spec := "getRuns", inPlace := ["internal/bytealg.IndexByteString", "internal/bytealg.IndexString"], unfollowed := true, recurses := true, named := ["internal/bytealg.MaxLen"], plainKeys := false, apart := false, narrowed := true }
def GetRunsUptoSaid : Prop := getRunsUptoRow.holds Try.pinned (OpenSpec.upto getRunsSpec)

/-- 'tendrillaw11.ScanRuns', WHERE WHAT IT READS IS OF BULK AT MOST 1048576: true; the input reads as it did. -/
def scanRunsUptoRow : OpenClaim := { program := "ytibhbejmffichaa", sum := "cf005d844b0c8d6d931446f01230f4f56301d8a0753c04a76cfa714f68409a9d", func := "tendril/tendrillaw11.ScanRuns", spec := "scanRuns", inPlace := ["internal/bytealg.IndexByteString", "internal/bytealg.IndexString"], unfollowed := true, recurses := true, named := ["internal/bytealg.MaxLen"], plainKeys := false, apart := false, narrowed := true }
def ScanRunsUptoSaid : Prop := scanRunsUptoRow.holds Try.pinned (OpenSpec.upto scanRunsSpec)

/-- 'tendrillaw14.TickRuns', WHERE WHAT IT READS IS OF BULK AT MOST 1048576: true; the input reads as it did. -/
def tickRunsUptoRow : OpenClaim := { program := "ytibhbejmffichaa", sum := "cf005d844b0c8d6d931446f01230f4f56301d8a0753c04a76cfa714f68409a9d", func := "tendril/tendrillaw14.TickRuns", spec := "tickRuns", unfollowed := true, recurses := true, plainKeys := false, apart := false, narrowed := true }
def TickRunsUptoSaid : Prop := tickRunsUptoRow.holds Try.pinned (OpenSpec.upto tickRunsSpec)

/-- 'tendrillaw17.LinRuns', WHERE WHAT IT READS IS OF BULK AT MOST 1048576: true; the input reads as it did. -/
def linRunsUptoRow : OpenClaim := { program := "ytibhbejmffichaa", sum := "cf005d844b0c8d6d931446f01230f4f56301d8a0753c04a76cfa714f68409a9d", func := "tendril/tendrillaw17.LinRuns", spec := "linRuns", unfollowed := true, recurses := true, plainKeys := false, apart := false, narrowed := true }
def LinRunsUptoSaid : Prop := linRunsUptoRow.holds Try.pinned (OpenSpec.upto linRunsSpec)

/-- 'tendrillaw19.BlockRuns', WHERE WHAT IT READS IS OF BULK AT MOST 1048576: true; the input reads as it did. -/
def blockRunsUptoRow : OpenClaim := { program := "ytibhbejmffichaa", sum := "cf005d844b0c8d6d931446f01230f4f56301d8a0753c04a76cfa714f68409a9d", func := "tendril/tendrillaw19.BlockRuns", spec := "blockRuns", plainKeys := false, apart := false, narrowed := true }
def BlockRunsUptoSaid : Prop := blockRunsUptoRow.holds Try.pinned (OpenSpec.upto blockRunsSpec)

/-- 'tendrillaw20.PostingRuns', WHERE WHAT IT READS IS OF BULK AT MOST 1048576: true; the input reads as it did. -/
def postingRunsUptoRow : OpenClaim := { program := "ytibhbejmffichaa", sum := "cf005d844b0c8d6d931446f01230f4f56301d8a0753c04a76cfa714f68409a9d", func := "tendril/tendrillaw20.PostingRuns", spec := "postingRuns", inPlace := ["slices.overlaps[int]"], unfollowed := true, recurses := true, plainKeys := false, apart := false, narrowed := true }
def PostingRunsUptoSaid : Prop := postingRunsUptoRow.holds Try.pinned (OpenSpec.upto postingRunsSpec)

/-- 'tendrillaw21.MergeRuns', WHERE WHAT IT READS IS OF BULK AT MOST 1048576: true; the input reads as it did. -/
def mergeRunsUptoRow : OpenClaim := { program := "ytibhbejmffichaa", sum := "cf005d844b0c8d6d931446f01230f4f56301d8a0753c04a76cfa714f68409a9d", func := "tendril/tendrillaw21.MergeRuns", spec := "mergeRuns", unfollowed := true, recurses := true, plainKeys := false, apart := false, narrowed := true }
def MergeRunsUptoSaid : Prop := mergeRunsUptoRow.holds Try.pinned (OpenSpec.upto mergeRunsSpec)

/-- 'tendrillaw22.TokenRuns', WHERE WHAT IT READS IS OF BULK AT MOST 1048576: true; the input reads as it did. -/
def tokenRunsUptoRow : OpenClaim := { program := "ytibhbejmffichaa", sum := "cf005d844b0c8d6d931446f01230f4f56301d8a0753c04a76cfa714f68409a9d", func := "tendril/tendrillaw22.TokenRuns", spec := "tokenRuns", recurses := true, plainKeys := false, apart := false, narrowed := true }
def TokenRunsUptoSaid : Prop := tokenRunsUptoRow.holds Try.pinned (OpenSpec.upto tokenRunsSpec)

/-- 'tendrillaw23.QueryRuns', WHERE WHAT IT READS IS OF BULK AT MOST 1048576: true; the input reads as it did. -/
def queryRunsUptoRow : OpenClaim := { program := "ytibhbejmffichaa", sum := "cf005d844b0c8d6d931446f01230f4f56301d8a0753c04a76cfa714f68409a9d", func := "tendril/tendrillaw23.QueryRuns", spec := "queryRuns", unfollowed := true, recurses := true, plainKeys := false, apart := false, narrowed := true }
def QueryRunsUptoSaid : Prop := queryRunsUptoRow.holds Try.pinned (OpenSpec.upto queryRunsSpec)

end Rows
end Go.Proofs.Ytibhbejmffichaa
