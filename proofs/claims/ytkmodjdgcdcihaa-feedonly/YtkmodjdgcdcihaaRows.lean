/-
  No cell of these rows narrows 'for every input' (looked for: loops, veiled, ifaces, maps, wideKeys, modest, calm, conditions, laid).
  DERIVED. THE GIVEN ROWS OF THIS SEAT. 6 by the template 'for every input the law returns true; each argument reads behind the call as it read before'; 0 by the template 'total and deterministic' (their statements: YtkmodjdgcdcihaaTotals.lean).
  GIVEN WITH THE SEED: the statements are not yours to turn. If you find one false, say at which input.
  Laid BY PROGRAM, IN A SANDBOX (cutbox-rows.mjs): the forced cells as the released guide's own fill.sh prints them over the translation 7658ba39523c893e… (all of the seat's roots in one cut). By AI agents, Wed Nov 11 2026. No macro, syntax, notation, axiom, sorry.
-/
import Derived.Test.YtkmodjdgcdcihaaChecked
import GoSem.Claim
import GoSem.ClaimJoined
import GoSem.ClaimMapViews
import Derived.JoinedTies
import Derived.KernelRfl
namespace Go.Proofs.Ytkmodjdgcdcihaa
/- THE CELL 'sum', in the pinned program and in every row, IS THE sha256 OF THE DUMP (.gsa) THAT YtkmodjdgcdcihaaProg.lean LOADS. Nothing in Lean hashes anything: it is a label: what it is worth is what the hold of that sum in a sandbox is worth. -/
noncomputable def Try.pinned : Pinned := { name := "ytkmodjdgcdcihaa", sum := "7658ba39523c893e765412a260a7e76c099a3956ade69fedf9bccc6393ae2f4e", checked := Try.checked }
namespace Rows
def none {H : Type} : Left H := { results := [], args := [] }

/-- 'doormanlaw09.FeedPlays': WHATEVER THE INPUT: true; the input reads as it did. -/
def feedPlaysSpec : ChangeSpec := { name := "feedPlays", fn := fun _ => fun
  | [d1, d2, d3, d4] => { results := [.lit (.bool true)], args := [d1, d2, d3, d4] }
  | _ => none }
def feedPlaysRow : OpenClaim := { program := "ytkmodjdgcdcihaa", sum := "7658ba39523c893e765412a260a7e76c099a3956ade69fedf9bccc6393ae2f4e", func := "doorman/doormanlaw09.FeedPlays", spec := "feedPlays", unfollowed := true, recurses := true, apart := false }
def FeedPlaysSaid : Prop := feedPlaysRow.holds Try.pinned (OpenSpec.ofChange feedPlaysSpec)

/-- ITS FALSE NEIGHBOUR: 'it returns false'. Refute it at one input. -/
def feedPlaysWrong : ChangeSpec := { name := "feedPlays", fn := fun _ => fun
  | [d1, d2, d3, d4] => { results := [.lit (.bool false)], args := [d1, d2, d3, d4] }
  | _ => none }
def FeedPlaysWrongFalsely : Prop := feedPlaysRow.holds Try.pinned (OpenSpec.ofChange feedPlaysWrong)

/-- 'doormanlaw09.FeedMerges': WHATEVER THE INPUT: true; the input reads as it did. -/
def feedMergesSpec : ChangeSpec := { name := "feedMerges", fn := fun _ => fun
  | [d] => { results := [.lit (.bool true)], args := [d] }
  | _ => none }
def feedMergesRow : OpenClaim := { program := "ytkmodjdgcdcihaa", sum := "7658ba39523c893e765412a260a7e76c099a3956ade69fedf9bccc6393ae2f4e", func := "doorman/doormanlaw09.FeedMerges", spec := "feedMerges", unfollowed := true, recurses := true, apart := false }
def FeedMergesSaid : Prop := feedMergesRow.holds Try.pinned (OpenSpec.ofChange feedMergesSpec)

/-- ITS FALSE NEIGHBOUR: 'it returns false'. Refute it at one input. -/
def feedMergesWrong : ChangeSpec := { name := "feedMerges", fn := fun _ => fun
  | [d] => { results := [.lit (.bool false)], args := [d] }
  | _ => none }
def FeedMergesWrongFalsely : Prop := feedMergesRow.holds Try.pinned (OpenSpec.ofChange feedMergesWrong)

/-- 'doormanlaw09.FeedOnly': WHATEVER THE INPUT: true; the input reads as it did. -/
def feedOnlySpec : ChangeSpec := { name := "feedOnly", fn := fun _ => fun
  | [d1, d2] => { results := [.lit (.bool true)], args := [d1, d2] }
  | _ => none }
def feedOnlyRow : OpenClaim := { program := "ytkmodjdgcdcihaa", sum := "7658ba39523c893e765412a260a7e76c099a3956ade69fedf9bccc6393ae2f4e", func := "doorman/doormanlaw09.FeedOnly", spec := "feedOnly", unfollowed := true, recurses := true, apart := false }
def FeedOnlySaid : Prop := feedOnlyRow.holds Try.pinned (OpenSpec.ofChange feedOnlySpec)

/-- ITS FALSE NEIGHBOUR: 'it returns false'. Refute it at one input. -/
def feedOnlyWrong : ChangeSpec := { name := "feedOnly", fn := fun _ => fun
  | [d1, d2] => { results := [.lit (.bool false)], args := [d1, d2] }
  | _ => none }
def FeedOnlyWrongFalsely : Prop := feedOnlyRow.holds Try.pinned (OpenSpec.ofChange feedOnlyWrong)

/-- 'doormanlaw09.FeedRises': WHATEVER THE INPUT: true; the input reads as it did. -/
def feedRisesSpec : ChangeSpec := { name := "feedRises", fn := fun _ => fun
  | [d] => { results := [.lit (.bool true)], args := [d] }
  | _ => none }
def feedRisesRow : OpenClaim := { program := "ytkmodjdgcdcihaa", sum := "7658ba39523c893e765412a260a7e76c099a3956ade69fedf9bccc6393ae2f4e", func := "doorman/doormanlaw09.FeedRises", spec := "feedRises", unfollowed := true, recurses := true, apart := false }
def FeedRisesSaid : Prop := feedRisesRow.holds Try.pinned (OpenSpec.ofChange feedRisesSpec)

/-- ITS FALSE NEIGHBOUR: 'it returns false'. Refute it at one input. -/
def feedRisesWrong : ChangeSpec := { name := "feedRises", fn := fun _ => fun
  | [d] => { results := [.lit (.bool false)], args := [d] }
  | _ => none }
def FeedRisesWrongFalsely : Prop := feedRisesRow.holds Try.pinned (OpenSpec.ofChange feedRisesWrong)

/-- 'doormanlaw09.FeedLost': WHATEVER THE INPUT: true; the input reads as it did. -/
def feedLostSpec : ChangeSpec := { name := "feedLost", fn := fun _ => fun
  | [d1, d2, d3, d4] => { results := [.lit (.bool true)], args := [d1, d2, d3, d4] }
  | _ => none }
def feedLostRow : OpenClaim := { program := "ytkmodjdgcdcihaa", sum := "7658ba39523c893e765412a260a7e76c099a3956ade69fedf9bccc6393ae2f4e", func := "doorman/doormanlaw09.FeedLost", spec := "feedLost", unfollowed := true, recurses := true, apart := false }
def FeedLostSaid : Prop := feedLostRow.holds Try.pinned (OpenSpec.ofChange feedLostSpec)

/-- ITS FALSE NEIGHBOUR: 'it returns false'. Refute it at one input. -/
def feedLostWrong : ChangeSpec := { name := "feedLost", fn := fun _ => fun
  | [d1, d2, d3, d4] => { results := [.lit (.bool false)], args := [d1, d2, d3, d4] }
  | _ => none }
def FeedLostWrongFalsely : Prop := feedLostRow.holds Try.pinned (OpenSpec.ofChange feedLostWrong)

/-- 'doormanlaw09.FeedTwice': WHATEVER THE INPUT: true; the input reads as it did. -/
def feedTwiceSpec : ChangeSpec := { name := "feedTwice", fn := fun _ => fun
  | [d1, d2, d3] => { results := [.lit (.bool true)], args := [d1, d2, d3] }
  | _ => none }
def feedTwiceRow : OpenClaim := { program := "ytkmodjdgcdcihaa", sum := "7658ba39523c893e765412a260a7e76c099a3956ade69fedf9bccc6393ae2f4e", func := "doorman/doormanlaw09.FeedTwice", spec := "feedTwice", unfollowed := true, recurses := true, apart := false }
def FeedTwiceSaid : Prop := feedTwiceRow.holds Try.pinned (OpenSpec.ofChange feedTwiceSpec)

/-- ITS FALSE NEIGHBOUR: 'it returns false'. Refute it at one input. -/
def feedTwiceWrong : ChangeSpec := { name := "feedTwice", fn := fun _ => fun
  | [d1, d2, d3] => { results := [.lit (.bool false)], args := [d1, d2, d3] }
  | _ => none }
def FeedTwiceWrongFalsely : Prop := feedTwiceRow.holds Try.pinned (OpenSpec.ofChange feedTwiceWrong)

/- THE SECOND FORM. 'bulk': how many values and letters a reading holds, each counted each time it is reached (what is shared counts as often as it is met; a slice's spare places count too). A statement '..UptoSaid' is the law's where the arguments, and the package variables that the reading takes, are together of bulk at most 1048576: NARROWER than '..Said'. Prove '..Said' where nothing that the law and all that it calls make is longer than what came in: it says more and counts as full. Else prove '..UptoSaid'. A law counts once. -/
mutual
def uptoBulk {H : Type} : DataW H → Nat
  | .lit (.string bytes) => bytes.length + 1
  | .lit _ => 1
  | .nil => 1
  | .ptr d => uptoBulk d + 1
  | .slice elems spare => uptoBulkAll elems + uptoBulkAll spare + 1
  | .agg parts => uptoBulkAll parts + 1
  | .iface _ d => uptoBulk d + 1
  | .map entries => uptoBulkEntries entries + 1
  | .held _ => 1
def uptoBulkAll {H : Type} : List (DataW H) → Nat
  | [] => 0
  | d :: r => uptoBulk d + uptoBulkAll r
def uptoBulkEntries {H : Type} : List (Lit × DataW H) → Nat
  | [] => 0
  | x :: r => uptoBulkEntry x + uptoBulkEntries r
def uptoBulkEntry {H : Type} : Lit × DataW H → Nat
  | (.string bytes, d) => bytes.length + uptoBulk d + 1
  | (_, d) => uptoBulk d + 1
 end
def uptoSmall : (H : Type) → List (DataW H) → Bool := fun _ ds => decide (uptoBulkAll ds ≤ 1048576)
def OpenSpec.upto (s : _root_.Go.ChangeSpec) : _root_.Go.OpenSpec := { _root_.Go.OpenSpec.ofChange s with cond := some uptoSmall }

/-- 'doormanlaw09.FeedPlays', WHERE WHAT IT READS IS OF BULK AT MOST 1048576: true; the input reads as it did. -/
def feedPlaysUptoRow : OpenClaim := { program := "ytkmodjdgcdcihaa", sum := "7658ba39523c893e765412a260a7e76c099a3956ade69fedf9bccc6393ae2f4e", func := "doorman/doormanlaw09.FeedPlays", spec := "feedPlays", unfollowed := true, recurses := true, apart := false, narrowed := true }
def FeedPlaysUptoSaid : Prop := feedPlaysUptoRow.holds Try.pinned (OpenSpec.upto feedPlaysSpec)

/-- 'doormanlaw09.FeedMerges', WHERE WHAT IT READS IS OF BULK AT MOST 1048576: true; the input reads as it did. -/
def feedMergesUptoRow : OpenClaim := { program := "ytkmodjdgcdcihaa", sum := "7658ba39523c893e765412a260a7e76c099a3956ade69fedf9bccc6393ae2f4e", func := "doorman/doormanlaw09.FeedMerges", spec := "feedMerges", unfollowed := true, recurses := true, apart := false, narrowed := true }
def FeedMergesUptoSaid : Prop := feedMergesUptoRow.holds Try.pinned (OpenSpec.upto feedMergesSpec)

/-- 'doormanlaw09.FeedOnly', WHERE WHAT IT READS IS OF BULK AT MOST 1048576: true; the input reads as it did. -/
def feedOnlyUptoRow : OpenClaim := { program := "ytkmodjdgcdcihaa", sum := "7658ba39523c893e765412a260a7e76c099a3956ade69fedf9bccc6393ae2f4e", func := "doorman/doormanlaw09.FeedOnly", spec := "feedOnly", unfollowed := true, recurses := true, apart := false, narrowed := true }
def FeedOnlyUptoSaid : Prop := feedOnlyUptoRow.holds Try.pinned (OpenSpec.upto feedOnlySpec)

/-- 'doormanlaw09.FeedRises', WHERE WHAT IT READS IS OF BULK AT MOST 1048576: true; the input reads as it did. -/
def feedRisesUptoRow : OpenClaim := { program := "ytkmodjdgcdcihaa", sum := "7658ba39523c893e765412a260a7e76c099a3956ade69fedf9bccc6393ae2f4e", func := "doorman/doormanlaw09.FeedRises", spec := "feedRises", unfollowed := true, recurses := true, apart := false, narrowed := true }
def FeedRisesUptoSaid : Prop := feedRisesUptoRow.holds Try.pinned (OpenSpec.upto feedRisesSpec)

/-- 'doormanlaw09.FeedLost', WHERE WHAT IT READS IS OF BULK AT MOST 1048576: true; the input reads as it did. -/
def feedLostUptoRow : OpenClaim := { program := "ytkmodjdgcdcihaa", sum := "7658ba39523c893e765412a260a7e76c099a3956ade69fedf9bccc6393ae2f4e", func := "doorman/doormanlaw09.FeedLost", spec := "feedLost", unfollowed := true, recurses := true, apart := false, narrowed := true }
def FeedLostUptoSaid : Prop := feedLostUptoRow.holds Try.pinned (OpenSpec.upto feedLostSpec)

/-- 'doormanlaw09.FeedTwice', WHERE WHAT IT READS IS OF BULK AT MOST 1048576: true; the input reads as it did. -/
def feedTwiceUptoRow : OpenClaim := { program := "ytkmodjdgcdcihaa", sum := "7658ba39523c893e765412a260a7e76c099a3956ade69fedf9bccc6393ae2f4e", func := "doorman/doormanlaw09.FeedTwice", spec := "feedTwice", unfollowed := true, recurses := true, apart := false, narrowed := true }
def FeedTwiceUptoSaid : Prop := feedTwiceUptoRow.holds Try.pinned (OpenSpec.upto feedTwiceSpec)

end Rows
end Go.Proofs.Ytkmodjdgcdcihaa
