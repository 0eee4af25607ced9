/-
  No cell of these rows narrows 'for every input' (looked for: loops, veiled, ifaces, maps, wideKeys, modest, calm, conditions, laid).
  DERIVED. THE GIVEN ROWS OF THIS SEAT. 5 by the template 'for every input the law returns true; each argument reads behind the call as it read before'; 0 by the template 'total and deterministic' (their statements: YtonmihojfcjmjabTotals.lean).
  GIVEN WITH THE SEED: the statements are not yours to turn. If you find one false, say at which input.
  Laid BY PROGRAM, IN A SANDBOX (cutbox-rows.mjs): the forced cells as the released guide's own fill.sh prints them over the translation 1b7b05e954e4c756… (all of the seat's roots in one cut). By AI agents, Wed Nov 11 2026. No macro, syntax, notation, axiom, sorry.
-/
import Derived.Test.YtonmihojfcjmjabChecked
import GoSem.Claim
import GoSem.ClaimJoined
import GoSem.ClaimMapViews
import Derived.JoinedTies
import Derived.KernelRfl
namespace Go.Proofs.Ytonmihojfcjmjab
/- THE CELL 'sum', in the pinned program and in every row, IS THE sha256 OF THE DUMP (.gsa) THAT YtonmihojfcjmjabProg.lean LOADS. Nothing in Lean hashes anything: it is a label: what it is worth is what the hold of that sum in a sandbox is worth. -/
noncomputable def Try.pinned : Pinned := { name := "ytonmihojfcjmjab", sum := "1b7b05e954e4c756c1e406c0a3458f83103df291f5c76ce7c4177e24c08fc4f1", checked := Try.checked }
namespace Rows
def none {H : Type} : Left H := { results := [], args := [] }

/-- 'rewindkeep.Deaf': WHATEVER THE INPUT: true; the input reads as it did. -/
def deafSpec : ChangeSpec := { name := "deaf", fn := fun _ => fun
  | [d] => { results := [.lit (.bool true)], args := [d] }
  | _ => none }
def deafRow : OpenClaim := { program := "ytonmihojfcjmjab", sum := "1b7b05e954e4c756c1e406c0a3458f83103df291f5c76ce7c4177e24c08fc4f1", func := "rewind/rewindkeep.Deaf", spec := "deaf", recurses := true, apart := false }
def DeafSaid : Prop := deafRow.holds Try.pinned (OpenSpec.ofChange deafSpec)

/-- ITS FALSE NEIGHBOUR: 'it returns false'. Refute it at one input. -/
def deafWrong : ChangeSpec := { name := "deaf", fn := fun _ => fun
  | [d] => { results := [.lit (.bool false)], args := [d] }
  | _ => none }
def DeafWrongFalsely : Prop := deafRow.holds Try.pinned (OpenSpec.ofChange deafWrong)

/-- 'rewindkeep.Unseen': WHATEVER THE INPUT: true; the input reads as it did. -/
def unseenSpec : ChangeSpec := { name := "unseen", fn := fun _ => fun
  | [d1, d2, d3, d4] => { results := [.lit (.bool true)], args := [d1, d2, d3, d4] }
  | _ => none }
def unseenRow : OpenClaim := { program := "ytonmihojfcjmjab", sum := "1b7b05e954e4c756c1e406c0a3458f83103df291f5c76ce7c4177e24c08fc4f1", func := "rewind/rewindkeep.Unseen", spec := "unseen", recurses := true, apart := false }
def UnseenSaid : Prop := unseenRow.holds Try.pinned (OpenSpec.ofChange unseenSpec)

/-- ITS FALSE NEIGHBOUR: 'it returns false'. Refute it at one input. -/
def unseenWrong : ChangeSpec := { name := "unseen", fn := fun _ => fun
  | [d1, d2, d3, d4] => { results := [.lit (.bool false)], args := [d1, d2, d3, d4] }
  | _ => none }
def UnseenWrongFalsely : Prop := unseenRow.holds Try.pinned (OpenSpec.ofChange unseenWrong)

/-- 'rewindkeep.Rewound': WHATEVER THE INPUT: true; the input reads as it did. -/
def rewoundSpec : ChangeSpec := { name := "rewound", fn := fun _ => fun
  | [d1, d2, d3, d4, d5, d6] => { results := [.lit (.bool true)], args := [d1, d2, d3, d4, d5, d6] }
  | _ => none }
def rewoundRow : OpenClaim := { program := "ytonmihojfcjmjab", sum := "1b7b05e954e4c756c1e406c0a3458f83103df291f5c76ce7c4177e24c08fc4f1", func := "rewind/rewindkeep.Rewound", spec := "rewound", recurses := true, apart := false }
def RewoundSaid : Prop := rewoundRow.holds Try.pinned (OpenSpec.ofChange rewoundSpec)

/-- ITS FALSE NEIGHBOUR: 'it returns false'. Refute it at one input. -/
def rewoundWrong : ChangeSpec := { name := "rewound", fn := fun _ => fun
  | [d1, d2, d3, d4, d5, d6] => { results := [.lit (.bool false)], args := [d1, d2, d3, d4, d5, d6] }
  | _ => none }
def RewoundWrongFalsely : Prop := rewoundRow.holds Try.pinned (OpenSpec.ofChange rewoundWrong)

/-- 'rewindkeep.Shielded': WHATEVER THE INPUT: true; the input reads as it did. -/
def shieldedSpec : ChangeSpec := { name := "shielded", fn := fun _ => fun
  | [d1, d2, d3, d4, d5] => { results := [.lit (.bool true)], args := [d1, d2, d3, d4, d5] }
  | _ => none }
def shieldedRow : OpenClaim := { program := "ytonmihojfcjmjab", sum := "1b7b05e954e4c756c1e406c0a3458f83103df291f5c76ce7c4177e24c08fc4f1", func := "rewind/rewindkeep.Shielded", spec := "shielded", recurses := true, apart := false }
def ShieldedSaid : Prop := shieldedRow.holds Try.pinned (OpenSpec.ofChange shieldedSpec)

/-- ITS FALSE NEIGHBOUR: 'it returns false'. Refute it at one input. -/
def shieldedWrong : ChangeSpec := { name := "shielded", fn := fun _ => fun
  | [d1, d2, d3, d4, d5] => { results := [.lit (.bool false)], args := [d1, d2, d3, d4, d5] }
  | _ => none }
def ShieldedWrongFalsely : Prop := shieldedRow.holds Try.pinned (OpenSpec.ofChange shieldedWrong)

/-- 'rewindkeep.Paid': WHATEVER THE INPUT: true; the input reads as it did. -/
def paidSpec : ChangeSpec := { name := "paid", fn := fun _ => fun
  | [d] => { results := [.lit (.bool true)], args := [d] }
  | _ => none }
def paidRow : OpenClaim := { program := "ytonmihojfcjmjab", sum := "1b7b05e954e4c756c1e406c0a3458f83103df291f5c76ce7c4177e24c08fc4f1", func := "rewind/rewindkeep.Paid", spec := "paid", recurses := true, apart := false }
def PaidSaid : Prop := paidRow.holds Try.pinned (OpenSpec.ofChange paidSpec)

/-- ITS FALSE NEIGHBOUR: 'it returns false'. Refute it at one input. -/
def paidWrong : ChangeSpec := { name := "paid", fn := fun _ => fun
  | [d] => { results := [.lit (.bool false)], args := [d] }
  | _ => none }
def PaidWrongFalsely : Prop := paidRow.holds Try.pinned (OpenSpec.ofChange paidWrong)

/- THE SECOND FORM. 'bulk': how many values and letters a reading holds, each counted each time it is reached (what is shared counts as often as it is met; a slice's spare places count too). A statement '..UptoSaid' is the law's where the arguments, and the package variables that the reading takes, are together of bulk at most 1048576: NARROWER than '..Said'. Prove '..Said' where nothing that the law and all that it calls make is longer than what came in: it says more and counts as full. Else prove '..UptoSaid'. A law counts once. -/
mutual
def uptoBulk {H : Type} : DataW H → Nat
  | .lit (.string bytes) => bytes.length + 1
  | .lit _ => 1
  | .nil => 1
  | .ptr d => uptoBulk d + 1
  | .slice elems spare => uptoBulkAll elems + uptoBulkAll spare + 1
  | .agg parts => uptoBulkAll parts + 1
  | .iface _ d => uptoBulk d + 1
  | .map entries => uptoBulkEntries entries + 1
  | .held _ => 1
def uptoBulkAll {H : Type} : List (DataW H) → Nat
  | [] => 0
  | d :: r => uptoBulk d + uptoBulkAll r
def uptoBulkEntries {H : Type} : List (Lit × DataW H) → Nat
  | [] => 0
  | x :: r => uptoBulkEntry x + uptoBulkEntries r
def uptoBulkEntry {H : Type} : Lit × DataW H → Nat
  | (.string bytes, d) => bytes.length + uptoBulk d + 1
  | (_, d) => uptoBulk d + 1
 end
def uptoSmall : (H : Type) → List (DataW H) → Bool := fun _ ds => decide (uptoBulkAll ds ≤ 1048576)
def OpenSpec.upto (s : _root_.Go.ChangeSpec) : _root_.Go.OpenSpec := { _root_.Go.OpenSpec.ofChange s with cond := some uptoSmall }

/-- 'rewindkeep.Deaf', WHERE WHAT IT READS IS OF BULK AT MOST 1048576: true; the input reads as it did. -/
def deafUptoRow : OpenClaim := { program := "ytonmihojfcjmjab", sum := "1b7b05e954e4c756c1e406c0a3458f83103df291f5c76ce7c4177e24c08fc4f1", func := "rewind/rewindkeep.Deaf", spec := "deaf", recurses := true, apart := false, narrowed := true }
def DeafUptoSaid : Prop := deafUptoRow.holds Try.pinned (OpenSpec.upto deafSpec)

/-- 'rewindkeep.Unseen', WHERE WHAT IT READS IS OF BULK AT MOST 1048576: true; the input reads as it did. -/
def unseenUptoRow : OpenClaim := { program := "ytonmihojfcjmjab", sum := "1b7b05e954e4c756c1e406c0a3458f83103df291f5c76ce7c4177e24c08fc4f1", func := "rewind/rewindkeep.Unseen", spec := "unseen", recurses := true, apart := false, narrowed := true }
def UnseenUptoSaid : Prop := unseenUptoRow.holds Try.pinned (OpenSpec.upto unseenSpec)

/-- 'rewindkeep.Rewound', WHERE WHAT IT READS IS OF BULK AT MOST 1048576: true; the input reads as it did. -/
def rewoundUptoRow : OpenClaim := { program := "ytonmihojfcjmjab", sum := "1b7b05e954e4c756c1e406c0a3458f83103df291f5c76ce7c4177e24c08fc4f1", func := "rewind/rewindkeep.Rewound", spec := "rewound", recurses := true, apart := false, narrowed := true }
def RewoundUptoSaid : Prop := rewoundUptoRow.holds Try.pinned (OpenSpec.upto rewoundSpec)

/-- 'rewindkeep.Shielded', WHERE WHAT IT READS IS OF BULK AT MOST 1048576: true; the input reads as it did. -/
def shieldedUptoRow : OpenClaim := { program := "ytonmihojfcjmjab", sum := "1b7b05e954e4c756c1e406c0a3458f83103df291f5c76ce7c4177e24c08fc4f1", func := "rewind/rewindkeep.Shielded", spec := "shielded", recurses := true, apart := false, narrowed := true }
def ShieldedUptoSaid : Prop := shieldedUptoRow.holds Try.pinned (OpenSpec.upto shieldedSpec)

/-- 'rewindkeep.Paid', WHERE WHAT IT READS IS OF BULK AT MOST 1048576: true; the input reads as it did. -/
def paidUptoRow : OpenClaim := { program := "ytonmihojfcjmjab", sum := "1b7b05e954e4c756c1e406c0a3458f83103df291f5c76ce7c4177e24c08fc4f1", func := "rewind/rewindkeep.Paid", spec := "paid", recurses := true, apart := false, narrowed := true }
def PaidUptoSaid : Prop := paidUptoRow.holds Try.pinned (OpenSpec.upto paidSpec)

end Rows
end Go.Proofs.Ytonmihojfcjmjab
