/-
  No cell of these rows narrows 'for every input' (looked for: loops, veiled, ifaces, maps, wideKeys, modest, calm, conditions, laid).
  DERIVED. THE GIVEN ROWS OF THIS SEAT. 9 by the template 'for every input the law returns true; each argument reads behind the call as it read before'; 0 by the template 'total and deterministic' (their statements: YtonmihojfcjmjaaTotals.lean).
  GIVEN WITH THE SEED: the statements are not yours to turn. If you find one false, say at which input.
  Laid BY PROGRAM, IN A SANDBOX (cutbox-rows.mjs): the forced cells as the released guide's own fill.sh prints them over the translation 4d9e4c9cf5c260c3… (all of the seat's roots in one cut). By AI agents, Wed Nov 11 2026. No macro, syntax, notation, axiom, sorry.
-/
import Derived.Test.YtonmihojfcjmjaaChecked
import GoSem.Claim
import GoSem.ClaimJoined
import GoSem.ClaimMapViews
import Derived.JoinedTies
import Derived.KernelRfl
namespace Go.Proofs.Ytonmihojfcjmjaa
/- THE CELL 'sum', in the pinned program and in every row, IS THE sha256 OF THE DUMP (.gsa) THAT YtonmihojfcjmjaaProg.lean LOADS. Nothing in Lean hashes anything: it is a label: what it is worth is what the hold of that sum in a sandbox is worth. -/
noncomputable def Try.pinned : Pinned := { name := "ytonmihojfcjmjaa", sum := "4d9e4c9cf5c260c3153229238728078f38ffae41ddc2814e3c23352f7f0040c5", checked := Try.checked }
namespace Rows
def none {H : Type} : Left H := { results := [], args := [] }

/-- 'rewindlaw.Checks': WHATEVER THE INPUT: true; the input reads as it did. -/
def checksSpec : ChangeSpec := { name := "checks", fn := fun _ => fun
  | [d] => { results := [.lit (.bool true)], args := [d] }
  | _ => none }
def checksRow : OpenClaim := { program := "ytonmihojfcjmjaa", sum := "4d9e4c9cf5c260c3153229238728078f38ffae41ddc2814e3c23352f7f0040c5", func := "rewind/rewindlaw.Checks", spec := "checks", recurses := true, apart := false }
def ChecksSaid : Prop := checksRow.holds Try.pinned (OpenSpec.ofChange checksSpec)

/-- ITS FALSE NEIGHBOUR: 'it returns false'. Refute it at one input. -/
def checksWrong : ChangeSpec := { name := "checks", fn := fun _ => fun
  | [d] => { results := [.lit (.bool false)], args := [d] }
  | _ => none }
def ChecksWrongFalsely : Prop := checksRow.holds Try.pinned (OpenSpec.ofChange checksWrong)

/-- 'rewindlaw.Zones': WHATEVER THE INPUT: true; the input reads as it did. -/
def zonesSpec : ChangeSpec := { name := "zones", fn := fun _ => fun
  | [d1, d2] => { results := [.lit (.bool true)], args := [d1, d2] }
  | _ => none }
def zonesRow : OpenClaim := { program := "ytonmihojfcjmjaa", sum := "4d9e4c9cf5c260c3153229238728078f38ffae41ddc2814e3c23352f7f0040c5", func := "rewind/rewindlaw.Zones", spec := "zones", recurses := true, apart := false }
def ZonesSaid : Prop := zonesRow.holds Try.pinned (OpenSpec.ofChange zonesSpec)

/-- ITS FALSE NEIGHBOUR: 'it returns false'. Refute it at one input. -/
def zonesWrong : ChangeSpec := { name := "zones", fn := fun _ => fun
  | [d1, d2] => { results := [.lit (.bool false)], args := [d1, d2] }
  | _ => none }
def ZonesWrongFalsely : Prop := zonesRow.holds Try.pinned (OpenSpec.ofChange zonesWrong)

/-- 'rewindkeep.First': WHATEVER THE INPUT: true; the input reads as it did. -/
def firstSpec : ChangeSpec := { name := "first", fn := fun _ => fun
  | [d1, d2, d3, d4, d5, d6] => { results := [.lit (.bool true)], args := [d1, d2, d3, d4, d5, d6] }
  | _ => none }
def firstRow : OpenClaim := { program := "ytonmihojfcjmjaa", sum := "4d9e4c9cf5c260c3153229238728078f38ffae41ddc2814e3c23352f7f0040c5", func := "rewind/rewindkeep.First", spec := "first", apart := false }
def FirstSaid : Prop := firstRow.holds Try.pinned (OpenSpec.ofChange firstSpec)

/-- ITS FALSE NEIGHBOUR: 'it returns false'. Refute it at one input. -/
def firstWrong : ChangeSpec := { name := "first", fn := fun _ => fun
  | [d1, d2, d3, d4, d5, d6] => { results := [.lit (.bool false)], args := [d1, d2, d3, d4, d5, d6] }
  | _ => none }
def FirstWrongFalsely : Prop := firstRow.holds Try.pinned (OpenSpec.ofChange firstWrong)

/-- 'rewindlaw.Traces': WHATEVER THE INPUT: true; the input reads as it did. -/
def tracesSpec : ChangeSpec := { name := "traces", fn := fun _ => fun
  | [d1, d2, d3] => { results := [.lit (.bool true)], args := [d1, d2, d3] }
  | _ => none }
def tracesRow : OpenClaim := { program := "ytonmihojfcjmjaa", sum := "4d9e4c9cf5c260c3153229238728078f38ffae41ddc2814e3c23352f7f0040c5", func := "rewind/rewindlaw.Traces", spec := "traces", recurses := true, apart := false }
def TracesSaid : Prop := tracesRow.holds Try.pinned (OpenSpec.ofChange tracesSpec)

/-- ITS FALSE NEIGHBOUR: 'it returns false'. Refute it at one input. -/
def tracesWrong : ChangeSpec := { name := "traces", fn := fun _ => fun
  | [d1, d2, d3] => { results := [.lit (.bool false)], args := [d1, d2, d3] }
  | _ => none }
def TracesWrongFalsely : Prop := tracesRow.holds Try.pinned (OpenSpec.ofChange tracesWrong)

/-- 'rewindkeep.Blocks': WHATEVER THE INPUT: true; the input reads as it did. -/
def blocksSpec : ChangeSpec := { name := "blocks", fn := fun _ => fun
  | [d1, d2, d3, d4] => { results := [.lit (.bool true)], args := [d1, d2, d3, d4] }
  | _ => none }
def blocksRow : OpenClaim := { program := "ytonmihojfcjmjaa", sum := "4d9e4c9cf5c260c3153229238728078f38ffae41ddc2814e3c23352f7f0040c5", func := "rewind/rewindkeep.Blocks", spec := "blocks", recurses := true, apart := false }
def BlocksSaid : Prop := blocksRow.holds Try.pinned (OpenSpec.ofChange blocksSpec)

/-- ITS FALSE NEIGHBOUR: 'it returns false'. Refute it at one input. -/
def blocksWrong : ChangeSpec := { name := "blocks", fn := fun _ => fun
  | [d1, d2, d3, d4] => { results := [.lit (.bool false)], args := [d1, d2, d3, d4] }
  | _ => none }
def BlocksWrongFalsely : Prop := blocksRow.holds Try.pinned (OpenSpec.ofChange blocksWrong)

/-- 'rewindkeep.Between': WHATEVER THE INPUT: true; the input reads as it did. -/
def betweenSpec : ChangeSpec := { name := "between", fn := fun _ => fun
  | [d1, d2, d3] => { results := [.lit (.bool true)], args := [d1, d2, d3] }
  | _ => none }
def betweenRow : OpenClaim := { program := "ytonmihojfcjmjaa", sum := "4d9e4c9cf5c260c3153229238728078f38ffae41ddc2814e3c23352f7f0040c5", func := "rewind/rewindkeep.Between", spec := "between", apart := false }
def BetweenSaid : Prop := betweenRow.holds Try.pinned (OpenSpec.ofChange betweenSpec)

/-- ITS FALSE NEIGHBOUR: 'it returns false'. Refute it at one input. -/
def betweenWrong : ChangeSpec := { name := "between", fn := fun _ => fun
  | [d1, d2, d3] => { results := [.lit (.bool false)], args := [d1, d2, d3] }
  | _ => none }
def BetweenWrongFalsely : Prop := betweenRow.holds Try.pinned (OpenSpec.ofChange betweenWrong)

/-- 'rewindlaw.Codes': WHATEVER THE INPUT: true; the input reads as it did. -/
def codesSpec : ChangeSpec := { name := "codes", fn := fun _ => fun
  | [d1, d2] => { results := [.lit (.bool true)], args := [d1, d2] }
  | _ => none }
def codesRow : OpenClaim := { program := "ytonmihojfcjmjaa", sum := "4d9e4c9cf5c260c3153229238728078f38ffae41ddc2814e3c23352f7f0040c5", func := "rewind/rewindlaw.Codes", spec := "codes", apart := false }
def CodesSaid : Prop := codesRow.holds Try.pinned (OpenSpec.ofChange codesSpec)

/-- ITS FALSE NEIGHBOUR: 'it returns false'. Refute it at one input. -/
def codesWrong : ChangeSpec := { name := "codes", fn := fun _ => fun
  | [d1, d2] => { results := [.lit (.bool false)], args := [d1, d2] }
  | _ => none }
def CodesWrongFalsely : Prop := codesRow.holds Try.pinned (OpenSpec.ofChange codesWrong)

/-- 'rewindkeep.Carried': WHATEVER THE INPUT: true; the input reads as it did. -/
def carriedSpec : ChangeSpec := { name := "carried", fn := fun _ => fun
  | [d1, d2, d3] => { results := [.lit (.bool true)], args := [d1, d2, d3] }
  | _ => none }
def carriedRow : OpenClaim := { program := "ytonmihojfcjmjaa", sum := "4d9e4c9cf5c260c3153229238728078f38ffae41ddc2814e3c23352f7f0040c5", func := "rewind/rewindkeep.Carried", spec := "carried", apart := false }
def CarriedSaid : Prop := carriedRow.holds Try.pinned (OpenSpec.ofChange carriedSpec)

/-- ITS FALSE NEIGHBOUR: 'it returns false'. Refute it at one input. -/
def carriedWrong : ChangeSpec := { name := "carried", fn := fun _ => fun
  | [d1, d2, d3] => { results := [.lit (.bool false)], args := [d1, d2, d3] }
  | _ => none }
def CarriedWrongFalsely : Prop := carriedRow.holds Try.pinned (OpenSpec.ofChange carriedWrong)

/-- 'rewindkeep.Seen': WHATEVER THE INPUT: true; the input reads as it did. -/
def seenSpec : ChangeSpec := { name := "seen", fn := fun _ => fun
  | [d1, d2, d3, d4] => { results := [.lit (.bool true)], args := [d1, d2, d3, d4] }
  | _ => none }
def seenRow : OpenClaim := { program := "ytonmihojfcjmjaa", sum := "4d9e4c9cf5c260c3153229238728078f38ffae41ddc2814e3c23352f7f0040c5", func := "rewind/rewindkeep.Seen", spec := "seen", recurses := true, apart := false }
def SeenSaid : Prop := seenRow.holds Try.pinned (OpenSpec.ofChange seenSpec)

/-- ITS FALSE NEIGHBOUR: 'it returns false'. Refute it at one input. -/
def seenWrong : ChangeSpec := { name := "seen", fn := fun _ => fun
  | [d1, d2, d3, d4] => { results := [.lit (.bool false)], args := [d1, d2, d3, d4] }
  | _ => none }
def SeenWrongFalsely : Prop := seenRow.holds Try.pinned (OpenSpec.ofChange seenWrong)

/- THE SECOND FORM. 'bulk': how many values and letters a reading holds, each counted each time it is reached (what is shared counts as often as it is met; a slice's spare places count too). A statement '..UptoSaid' is the law's where the arguments, and the package variables that the reading takes, are together of bulk at most 1048576: NARROWER than '..Said'. Prove '..Said' where nothing that the law and all that it calls make is longer than what came in: it says more and counts as full. Else prove '..UptoSaid'. A law counts once. -/
mutual
def uptoBulk {H : Type} : DataW H → Nat
  | .lit (.string bytes) => bytes.length + 1
  | .lit _ => 1
  | .nil => 1
  | .ptr d => uptoBulk d + 1
  | .slice elems spare => uptoBulkAll elems + uptoBulkAll spare + 1
  | .agg parts => uptoBulkAll parts + 1
  | .iface _ d => uptoBulk d + 1
  | .map entries => uptoBulkEntries entries + 1
  | .held _ => 1
def uptoBulkAll {H : Type} : List (DataW H) → Nat
  | [] => 0
  | d :: r => uptoBulk d + uptoBulkAll r
def uptoBulkEntries {H : Type} : List (Lit × DataW H) → Nat
  | [] => 0
  | x :: r => uptoBulkEntry x + uptoBulkEntries r
def uptoBulkEntry {H : Type} : Lit × DataW H → Nat
  | (.string bytes, d) => bytes.length + uptoBulk d + 1
  | (_, d) => uptoBulk d + 1
 end
def uptoSmall : (H : Type) → List (DataW H) → Bool := fun _ ds => decide (uptoBulkAll ds ≤ 1048576)
def OpenSpec.upto (s : _root_.Go.ChangeSpec) : _root_.Go.OpenSpec := { _root_.Go.OpenSpec.ofChange s with cond := some uptoSmall }

/-- 'rewindlaw.Checks', WHERE WHAT IT READS IS OF BULK AT MOST 1048576: true; the input reads as it did. -/
def checksUptoRow : OpenClaim := { program := "ytonmihojfcjmjaa", sum := "4d9e4c9cf5c260c3153229238728078f38ffae41ddc2814e3c23352f7f0040c5", func := "rewind/rewindlaw.Checks", spec := "checks", recurses := true, apart := false, narrowed := true }
def ChecksUptoSaid : Prop := checksUptoRow.holds Try.pinned (OpenSpec.upto checksSpec)

/-- 'rewindlaw.Zones', WHERE WHAT IT READS IS OF BULK AT MOST 1048576: true; the input reads as it did. -/
def zonesUptoRow : OpenClaim := { program := "ytonmihojfcjmjaa", sum := "4d9e4c9cf5c260c3153229238728078f38ffae41ddc2814e3c23352f7f0040c5", func := "rewind/rewindlaw.Zones", spec := "zones", recurses := true, apart := false, narrowed := true }
def ZonesUptoSaid : Prop := zonesUptoRow.holds Try.pinned (OpenSpec.upto zonesSpec)

/-- 'rewindkeep.First', WHERE WHAT IT READS IS OF BULK AT MOST 1048576: true; the input reads as it did. -/
def firstUptoRow : OpenClaim := { program := "ytonmihojfcjmjaa", sum := "4d9e4c9cf5c260c3153229238728078f38ffae41ddc2814e3c23352f7f0040c5", func := "rewind/rewindkeep.First", spec := "first", apart := false, narrowed := true }
def FirstUptoSaid : Prop := firstUptoRow.holds Try.pinned (OpenSpec.upto firstSpec)

/-- 'rewindlaw.Traces', WHERE WHAT IT READS IS OF BULK AT MOST 1048576: true; the input reads as it did. -/
def tracesUptoRow : OpenClaim := { program := "ytonmihojfcjmjaa", sum := "4d9e4c9cf5c260c3153229238728078f38ffae41ddc2814e3c23352f7f0040c5", func := "rewind/rewindlaw.Traces", spec := "traces", recurses := true, apart := false, narrowed := true }
def TracesUptoSaid : Prop := tracesUptoRow.holds Try.pinned (OpenSpec.upto tracesSpec)

/-- 'rewindkeep.Blocks', WHERE WHAT IT READS IS OF BULK AT MOST 1048576: true; the input reads as it did. -/
def blocksUptoRow : OpenClaim := { program := "ytonmihojfcjmjaa", sum := "4d9e4c9cf5c260c3153229238728078f38ffae41ddc2814e3c23352f7f0040c5", func := "rewind/rewindkeep.Blocks", spec := "blocks", recurses := true, apart := false, narrowed := true }
def BlocksUptoSaid : Prop := blocksUptoRow.holds Try.pinned (OpenSpec.upto blocksSpec)

/-- 'rewindkeep.Between', WHERE WHAT IT READS IS OF BULK AT MOST 1048576: true; the input reads as it did. -/
def betweenUptoRow : OpenClaim := { program := "ytonmihojfcjmjaa", sum := "4d9e4c9cf5c260c3153229238728078f38ffae41ddc2814e3c23352f7f0040c5", func := "rewind/rewindkeep.Between", spec := "between", apart := false, narrowed := true }
def BetweenUptoSaid : Prop := betweenUptoRow.holds Try.pinned (OpenSpec.upto betweenSpec)

/-- 'rewindlaw.Codes', WHERE WHAT IT READS IS OF BULK AT MOST 1048576: true; the input reads as it did. -/
def codesUptoRow : OpenClaim := { program := "ytonmihojfcjmjaa", sum := "4d9e4c9cf5c260c3153229238728078f38ffae41ddc2814e3c23352f7f0040c5", func := "rewind/rewindlaw.Codes", spec := "codes", apart := false, narrowed := true }
def CodesUptoSaid : Prop := codesUptoRow.holds Try.pinned (OpenSpec.upto codesSpec)

/-- 'rewindkeep.Carried', WHERE WHAT IT READS IS OF BULK AT MOST 1048576: true; the input reads as it did. -/
def carriedUptoRow : OpenClaim := { program := "ytonmihojfcjmjaa", sum := "4d9e4c9cf5c260c3153229238728078f38ffae41ddc2814e3c23352f7f0040c5", func := "rewind/rewindkeep.Carried", spec := "carried", apart := false, narrowed := true }
def CarriedUptoSaid : Prop := carriedUptoRow.holds Try.pinned (OpenSpec.upto carriedSpec)

/-- 'rewindkeep.Seen', WHERE WHAT IT READS IS OF BULK AT MOST 1048576: true; the input reads as it did. -/
def seenUptoRow : OpenClaim := { program := "ytonmihojfcjmjaa", sum := "4d9e4c9cf5c260c3153229238728078f38ffae41ddc2814e3c23352f7f0040c5", func := "rewind/rewindkeep.Seen", spec := "seen", recurses := true, apart := false, narrowed := true }
def SeenUptoSaid : Prop := seenUptoRow.holds Try.pinned (OpenSpec.upto seenSpec)

end Rows
end Go.Proofs.Ytonmihojfcjmjaa
