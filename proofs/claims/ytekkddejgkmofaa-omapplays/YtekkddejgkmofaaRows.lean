/-
  No cell of these rows narrows 'for every input' (looked for: loops, veiled, ifaces, maps, wideKeys, modest, calm, conditions, laid).
  DERIVED. THE GIVEN ROWS OF THIS SEAT. 5 by the template 'for every input the law returns true; each argument reads behind the call as it read before'; 0 by the template 'total and deterministic' (their statements: YtekkddejgkmofaaTotals.lean).
  GIVEN WITH THE SEED: the statements are not yours to turn. If you find one false, say at which input.
  Laid BY PROGRAM, IN A SANDBOX (cutbox-rows.mjs): the forced cells as the released guide's own fill.sh prints them over the translation 737a1c280d23751a… (all of the seat's roots in one cut). By AI agents, Wed Nov 11 2026. No macro, syntax, notation, axiom, sorry.
-/
import Derived.Test.YtekkddejgkmofaaChecked
import GoSem.Claim
import GoSem.ClaimJoined
import GoSem.ClaimMapViews
import Derived.JoinedTies
import Derived.KernelRfl
namespace Go.Proofs.Ytekkddejgkmofaa
/- THE CELL 'sum', in the pinned program and in every row, IS THE sha256 OF THE DUMP (.gsa) THAT YtekkddejgkmofaaProg.lean LOADS. Nothing in Lean hashes anything: it is a label: what it is worth is what the hold of that sum in a sandbox is worth. -/
noncomputable def Try.pinned : Pinned := { name := "ytekkddejgkmofaa", sum := "737a1c280d23751ac9d20b274cfc00f2634be07cc8faad853c85169926166973", checked := Try.checked }
namespace Rows
def none {H : Type} : Left H := { results := [], args := [] }

/-- 'doormanlaw04.OmapPlays': WHATEVER THE INPUT: true; the input reads as it did. -/
def omapPlaysSpec : ChangeSpec := { name := "omapPlays", fn := fun _ => fun
  | [d1, d2] => { results := [.lit (.bool true)], args := [d1, d2] }
  | _ => none }
def omapPlaysRow : OpenClaim := { program := "ytekkddejgkmofaa", sum := "737a1c280d23751ac9d20b274cfc00f2634be07cc8faad853c85169926166973", func := "doorman/doormanlaw04.OmapPlays", spec := "omapPlays", unfollowed := true, recurses := true, apart := false }
def OmapPlaysSaid : Prop := omapPlaysRow.holds Try.pinned (OpenSpec.ofChange omapPlaysSpec)

/-- ITS FALSE NEIGHBOUR: 'it returns false'. Refute it at one input. -/
def omapPlaysWrong : ChangeSpec := { name := "omapPlays", fn := fun _ => fun
  | [d1, d2] => { results := [.lit (.bool false)], args := [d1, d2] }
  | _ => none }
def OmapPlaysWrongFalsely : Prop := omapPlaysRow.holds Try.pinned (OpenSpec.ofChange omapPlaysWrong)

/-- 'doormanlaw04.OmapStops': WHATEVER THE INPUT: true; the input reads as it did. -/
def omapStopsSpec : ChangeSpec := { name := "omapStops", fn := fun _ => fun
  | [d1, d2] => { results := [.lit (.bool true)], args := [d1, d2] }
  | _ => none }
def omapStopsRow : OpenClaim := { program := "ytekkddejgkmofaa", sum := "737a1c280d23751ac9d20b274cfc00f2634be07cc8faad853c85169926166973", func := "doorman/doormanlaw04.OmapStops", spec := "omapStops", unfollowed := true, recurses := true, apart := false }
def OmapStopsSaid : Prop := omapStopsRow.holds Try.pinned (OpenSpec.ofChange omapStopsSpec)

/-- ITS FALSE NEIGHBOUR: 'it returns false'. Refute it at one input. -/
def omapStopsWrong : ChangeSpec := { name := "omapStops", fn := fun _ => fun
  | [d1, d2] => { results := [.lit (.bool false)], args := [d1, d2] }
  | _ => none }
def OmapStopsWrongFalsely : Prop := omapStopsRow.holds Try.pinned (OpenSpec.ofChange omapStopsWrong)

/-- 'doormanlaw04.OmapNumbers': WHATEVER THE INPUT: true; the input reads as it did. -/
def omapNumbersSpec : ChangeSpec := { name := "omapNumbers", fn := fun _ => fun
  | [d] => { results := [.lit (.bool true)], args := [d] }
  | _ => none }
def omapNumbersRow : OpenClaim := { program := "ytekkddejgkmofaa", sum := "737a1c280d23751ac9d20b274cfc00f2634be07cc8faad853c85169926166973", func := "doorman/doormanlaw04.OmapNumbers", spec := "omapNumbers", unfollowed := true, recurses := true, apart := false }
def OmapNumbersSaid : Prop := omapNumbersRow.holds Try.pinned (OpenSpec.ofChange omapNumbersSpec)

/-- ITS FALSE NEIGHBOUR: 'it returns false'. Refute it at one input. -/
def omapNumbersWrong : ChangeSpec := { name := "omapNumbers", fn := fun _ => fun
  | [d] => { results := [.lit (.bool false)], args := [d] }
  | _ => none }
def OmapNumbersWrongFalsely : Prop := omapNumbersRow.holds Try.pinned (OpenSpec.ofChange omapNumbersWrong)

/-- 'doormanlaw04.OmapBack': WHATEVER THE INPUT: true; the input reads as it did. -/
def omapBackSpec : ChangeSpec := { name := "omapBack", fn := fun _ => fun
  | [d1, d2, d3] => { results := [.lit (.bool true)], args := [d1, d2, d3] }
  | _ => none }
def omapBackRow : OpenClaim := { program := "ytekkddejgkmofaa", sum := "737a1c280d23751ac9d20b274cfc00f2634be07cc8faad853c85169926166973", func := "doorman/doormanlaw04.OmapBack", spec := "omapBack", unfollowed := true, recurses := true, apart := false }
def OmapBackSaid : Prop := omapBackRow.holds Try.pinned (OpenSpec.ofChange omapBackSpec)

/-- ITS FALSE NEIGHBOUR: 'it returns false'. Refute it at one input. -/
def omapBackWrong : ChangeSpec := { name := "omapBack", fn := fun _ => fun
  | [d1, d2, d3] => { results := [.lit (.bool false)], args := [d1, d2, d3] }
  | _ => none }
def OmapBackWrongFalsely : Prop := omapBackRow.holds Try.pinned (OpenSpec.ofChange omapBackWrong)

/-- 'doormanlaw04.OmapWhole': WHATEVER THE INPUT: true; the input reads as it did. -/
def omapWholeSpec : ChangeSpec := { name := "omapWhole", fn := fun _ => fun
  | [d] => { results := [.lit (.bool true)], args := [d] }
  | _ => none }
def omapWholeRow : OpenClaim := { program := "ytekkddejgkmofaa", sum := "737a1c280d23751ac9d20b274cfc00f2634be07cc8faad853c85169926166973", func := "doorman/doormanlaw04.OmapWhole", spec := "omapWhole", unfollowed := true, recurses := true, apart := false }
def OmapWholeSaid : Prop := omapWholeRow.holds Try.pinned (OpenSpec.ofChange omapWholeSpec)

/-- ITS FALSE NEIGHBOUR: 'it returns false'. Refute it at one input. -/
def omapWholeWrong : ChangeSpec := { name := "omapWhole", fn := fun _ => fun
  | [d] => { results := [.lit (.bool false)], args := [d] }
  | _ => none }
def OmapWholeWrongFalsely : Prop := omapWholeRow.holds Try.pinned (OpenSpec.ofChange omapWholeWrong)

/- THE SECOND FORM. 'bulk': how many values and letters a reading holds, each counted each time it is reached (what is shared counts as often as it is met; a slice's spare places count too). A statement '..UptoSaid' is the law's where the arguments, and the package variables that the reading takes, are together of bulk at most 1048576: NARROWER than '..Said'. Prove '..Said' where nothing that the law and all that it calls make is longer than what came in: it says more and counts as full. Else prove '..UptoSaid'. A law counts once. -/
mutual
def uptoBulk {H : Type} : DataW H → Nat
  | .lit (.string bytes) => bytes.length + 1
  | .lit _ => 1
  | .nil => 1
  | .ptr d => uptoBulk d + 1
  | .slice elems spare => uptoBulkAll elems + uptoBulkAll spare + 1
  | .agg parts => uptoBulkAll parts + 1
  | .iface _ d => uptoBulk d + 1
  | .map entries => uptoBulkEntries entries + 1
  | .held _ => 1
def uptoBulkAll {H : Type} : List (DataW H) → Nat
  | [] => 0
  | d :: r => uptoBulk d + uptoBulkAll r
def uptoBulkEntries {H : Type} : List (Lit × DataW H) → Nat
  | [] => 0
  | x :: r => uptoBulkEntry x + uptoBulkEntries r
def uptoBulkEntry {H : Type} : Lit × DataW H → Nat
  | (.string bytes, d) => bytes.length + uptoBulk d + 1
  | (_, d) => uptoBulk d + 1
 end
def uptoSmall : (H : Type) → List (DataW H) → Bool := fun _ ds => decide (uptoBulkAll ds ≤ 1048576)
def OpenSpec.upto (s : _root_.Go.ChangeSpec) : _root_.Go.OpenSpec := { _root_.Go.OpenSpec.ofChange s with cond := some uptoSmall }

/-- 'doormanlaw04.OmapPlays', WHERE WHAT IT READS IS OF BULK AT MOST 1048576: true; the input reads as it did. -/
def omapPlaysUptoRow : OpenClaim := { program := "ytekkddejgkmofaa", sum := "737a1c280d23751ac9d20b274cfc00f2634be07cc8faad853c85169926166973", func := "doorman/doormanlaw04.OmapPlays", spec := "omapPlays", unfollowed := true, recurses := true, apart := false, narrowed := true }
def OmapPlaysUptoSaid : Prop := omapPlaysUptoRow.holds Try.pinned (OpenSpec.upto omapPlaysSpec)

/-- 'doormanlaw04.OmapStops', WHERE WHAT IT READS IS OF BULK AT MOST 1048576: true; the input reads as it did. -/
def omapStopsUptoRow : OpenClaim := { program := "ytekkddejgkmofaa", sum := "737a1c280d23751ac9d20b274cfc00f2634be07cc8faad853c85169926166973", func := "doorman/doormanlaw04.OmapStops", spec := "omapStops", unfollowed := true, recurses := true, apart := false, narrowed := true }
def OmapStopsUptoSaid : Prop := omapStopsUptoRow.holds Try.pinned (OpenSpec.upto omapStopsSpec)

/-- 'doormanlaw04.OmapNumbers', WHERE WHAT IT READS IS OF BULK AT MOST 1048576: true; the input reads as it did. -/
def omapNumbersUptoRow : OpenClaim := { program := "ytekkddejgkmofaa", sum := "737a1c280d23751ac9d20b274cfc00f2634be07cc8faad853c85169926166973", func := "doorman/doormanlaw04.OmapNumbers", spec := "omapNumbers", unfollowed := true, recurses := true, apart := false, narrowed := true }
def OmapNumbersUptoSaid : Prop := omapNumbersUptoRow.holds Try.pinned (OpenSpec.upto omapNumbersSpec)

/-- 'doormanlaw04.OmapBack', WHERE WHAT IT READS IS OF BULK AT MOST 1048576: true; the input reads as it did. -/
def omapBackUptoRow : OpenClaim := { program := "ytekkddejgkmofaa", sum := "737a1c280d23751ac9d20b274cfc00f2634be07cc8faad853c85169926166973", func := "doorman/doormanlaw04.OmapBack", spec := "omapBack", unfollowed := true, recurses := true, apart := false, narrowed := true }
def OmapBackUptoSaid : Prop := omapBackUptoRow.holds Try.pinned (OpenSpec.upto omapBackSpec)

/-- 'doormanlaw04.OmapWhole', WHERE WHAT IT READS IS OF BULK AT MOST 1048576: true; the input reads as it did. -/
def omapWholeUptoRow : OpenClaim := { program := "ytekkddejgkmofaa", sum := "737a1c280d23751ac9d20b274cfc00f2634be07cc8faad853c85169926166973", func := "doorman/doormanlaw04.OmapWhole", spec := "omapWhole", unfollowed := true, recurses := true, apart := false, narrowed := true }
def OmapWholeUptoSaid : Prop := omapWholeUptoRow.holds Try.pinned (OpenSpec.upto omapWholeSpec)

end Rows
end Go.Proofs.Ytekkddejgkmofaa
