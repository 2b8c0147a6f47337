/-
  No cell of these rows narrows 'for every input' (looked for: loops, veiled, ifaces, maps, wideKeys, modest, calm, conditions, laid).
  DERIVED. THE GIVEN ROWS OF THIS SEAT. 6 by the template 'for every input the law returns true; each argument reads behind the call as it read before'; 0 by the template 'total and deterministic' (their statements: YtjjemdmbhgmiiaaTotals.lean).
  GIVEN WITH THE SEED: the statements are not yours to turn. If you find one false, say at which input.
  Laid BY PROGRAM, IN A SANDBOX (cutbox-rows.mjs): the forced cells as the released guide's own fill.sh prints them over the translation a67796f8c0f07d6c… (all of the seat's roots in one cut). By AI agents, Wed Nov 11 2026. No macro, syntax, notation, axiom, sorry.
-/
import Derived.Test.YtjjemdmbhgmiiaaChecked
import GoSem.Claim
import GoSem.ClaimJoined
import GoSem.ClaimMapViews
import Derived.JoinedTies
import Derived.KernelRfl
namespace Go.Proofs.Ytjjemdmbhgmiiaa
/- THE CELL 'sum', in the pinned program and in every row, IS THE sha256 OF THE DUMP (.gsa) THAT YtjjemdmbhgmiiaaProg.lean LOADS. Nothing in Lean hashes anything: it is a label: what it is worth is what the hold of that sum in a sandbox is worth. -/
noncomputable def Try.pinned : Pinned := { name := "ytjjemdmbhgmiiaa", sum := "a67796f8c0f07d6c789f9f9663cecd1e459354ec58c642eef27b544c84752773", checked := Try.checked }
namespace Rows
def none {H : Type} : Left H := { results := [], args := [] }

/-- 'doormanlaw08.BookPlays': WHATEVER THE INPUT: true; the input reads as it did. -/
def bookPlaysSpec : ChangeSpec := { name := "bookPlays", fn := fun _ => fun
  | [d1, d2, d3] => { results := [.lit (.bool true)], args := [d1, d2, d3] }
  | _ => none }
def bookPlaysRow : OpenClaim := { program := "ytjjemdmbhgmiiaa", sum := "a67796f8c0f07d6c789f9f9663cecd1e459354ec58c642eef27b544c84752773", func := "doorman/doormanlaw08.BookPlays", spec := "bookPlays", inPlace := ["slices.overlaps[doorman/api.Session]"], unfollowed := true, recurses := true, apart := false }
def BookPlaysSaid : Prop := bookPlaysRow.holds Try.pinned (OpenSpec.ofChange bookPlaysSpec)

/-- ITS FALSE NEIGHBOUR: 'it returns false'. Refute it at one input. -/
def bookPlaysWrong : ChangeSpec := { name := "bookPlays", fn := fun _ => fun
  | [d1, d2, d3] => { results := [.lit (.bool false)], args := [d1, d2, d3] }
  | _ => none }
def BookPlaysWrongFalsely : Prop := bookPlaysRow.holds Try.pinned (OpenSpec.ofChange bookPlaysWrong)

/-- 'doormanlaw08.BookSweeps': WHATEVER THE INPUT: true; the input reads as it did. -/
def bookSweepsSpec : ChangeSpec := { name := "bookSweeps", fn := fun _ => fun
  | [d1, d2, d3, d4] => { results := [.lit (.bool true)], args := [d1, d2, d3, d4] }
  | _ => none }
def bookSweepsRow : OpenClaim := { program := "ytjjemdmbhgmiiaa", sum := "a67796f8c0f07d6c789f9f9663cecd1e459354ec58c642eef27b544c84752773", func := "doorman/doormanlaw08.BookSweeps", spec := "bookSweeps", inPlace := ["slices.overlaps[doorman/api.Session]"], unfollowed := true, recurses := true, apart := false }
def BookSweepsSaid : Prop := bookSweepsRow.holds Try.pinned (OpenSpec.ofChange bookSweepsSpec)

/-- ITS FALSE NEIGHBOUR: 'it returns false'. Refute it at one input. -/
def bookSweepsWrong : ChangeSpec := { name := "bookSweeps", fn := fun _ => fun
  | [d1, d2, d3, d4] => { results := [.lit (.bool false)], args := [d1, d2, d3, d4] }
  | _ => none }
def BookSweepsWrongFalsely : Prop := bookSweepsRow.holds Try.pinned (OpenSpec.ofChange bookSweepsWrong)

/-- 'doormanlaw08.BookTells': WHATEVER THE INPUT: true; the input reads as it did. -/
def bookTellsSpec : ChangeSpec := { name := "bookTells", fn := fun _ => fun
  | [d1, d2] => { results := [.lit (.bool true)], args := [d1, d2] }
  | _ => none }
def bookTellsRow : OpenClaim := { program := "ytjjemdmbhgmiiaa", sum := "a67796f8c0f07d6c789f9f9663cecd1e459354ec58c642eef27b544c84752773", func := "doorman/doormanlaw08.BookTells", spec := "bookTells", inPlace := ["slices.overlaps[doorman/api.Session]"], unfollowed := true, recurses := true, apart := false }
def BookTellsSaid : Prop := bookTellsRow.holds Try.pinned (OpenSpec.ofChange bookTellsSpec)

/-- ITS FALSE NEIGHBOUR: 'it returns false'. Refute it at one input. -/
def bookTellsWrong : ChangeSpec := { name := "bookTells", fn := fun _ => fun
  | [d1, d2] => { results := [.lit (.bool false)], args := [d1, d2] }
  | _ => none }
def BookTellsWrongFalsely : Prop := bookTellsRow.holds Try.pinned (OpenSpec.ofChange bookTellsWrong)

/-- 'doormanlaw08.BookOnly': WHATEVER THE INPUT: true; the input reads as it did. -/
def bookOnlySpec : ChangeSpec := { name := "bookOnly", fn := fun _ => fun
  | [d1, d2, d3] => { results := [.lit (.bool true)], args := [d1, d2, d3] }
  | _ => none }
def bookOnlyRow : OpenClaim := { program := "ytjjemdmbhgmiiaa", sum := "a67796f8c0f07d6c789f9f9663cecd1e459354ec58c642eef27b544c84752773", func := "doorman/doormanlaw08.BookOnly", spec := "bookOnly", inPlace := ["slices.overlaps[doorman/api.Session]"], unfollowed := true, recurses := true, apart := false }
def BookOnlySaid : Prop := bookOnlyRow.holds Try.pinned (OpenSpec.ofChange bookOnlySpec)

/-- ITS FALSE NEIGHBOUR: 'it returns false'. Refute it at one input. -/
def bookOnlyWrong : ChangeSpec := { name := "bookOnly", fn := fun _ => fun
  | [d1, d2, d3] => { results := [.lit (.bool false)], args := [d1, d2, d3] }
  | _ => none }
def BookOnlyWrongFalsely : Prop := bookOnlyRow.holds Try.pinned (OpenSpec.ofChange bookOnlyWrong)

/-- 'doormanlaw08.BookRoom': WHATEVER THE INPUT: true; the input reads as it did. -/
def bookRoomSpec : ChangeSpec := { name := "bookRoom", fn := fun _ => fun
  | [d1, d2] => { results := [.lit (.bool true)], args := [d1, d2] }
  | _ => none }
def bookRoomRow : OpenClaim := { program := "ytjjemdmbhgmiiaa", sum := "a67796f8c0f07d6c789f9f9663cecd1e459354ec58c642eef27b544c84752773", func := "doorman/doormanlaw08.BookRoom", spec := "bookRoom", inPlace := ["slices.overlaps[doorman/api.Session]"], unfollowed := true, recurses := true, apart := false }
def BookRoomSaid : Prop := bookRoomRow.holds Try.pinned (OpenSpec.ofChange bookRoomSpec)

/-- ITS FALSE NEIGHBOUR: 'it returns false'. Refute it at one input. -/
def bookRoomWrong : ChangeSpec := { name := "bookRoom", fn := fun _ => fun
  | [d1, d2] => { results := [.lit (.bool false)], args := [d1, d2] }
  | _ => none }
def BookRoomWrongFalsely : Prop := bookRoomRow.holds Try.pinned (OpenSpec.ofChange bookRoomWrong)

/-- 'doormanlaw08.BookSame': WHATEVER THE INPUT: true; the input reads as it did. -/
def bookSameSpec : ChangeSpec := { name := "bookSame", fn := fun _ => fun
  | [d1, d2] => { results := [.lit (.bool true)], args := [d1, d2] }
  | _ => none }
def bookSameRow : OpenClaim := { program := "ytjjemdmbhgmiiaa", sum := "a67796f8c0f07d6c789f9f9663cecd1e459354ec58c642eef27b544c84752773", func := "doorman/doormanlaw08.BookSame", spec := "bookSame", inPlace := ["slices.overlaps[doorman/api.Session]"], unfollowed := true, recurses := true, apart := false }
def BookSameSaid : Prop := bookSameRow.holds Try.pinned (OpenSpec.ofChange bookSameSpec)

/-- ITS FALSE NEIGHBOUR: 'it returns false'. Refute it at one input. -/
def bookSameWrong : ChangeSpec := { name := "bookSame", fn := fun _ => fun
  | [d1, d2] => { results := [.lit (.bool false)], args := [d1, d2] }
  | _ => none }
def BookSameWrongFalsely : Prop := bookSameRow.holds Try.pinned (OpenSpec.ofChange bookSameWrong)

/- THE SECOND FORM. 'bulk': how many values and letters a reading holds, each counted each time it is reached (what is shared counts as often as it is met; a slice's spare places count too). A statement '..UptoSaid' is the law's where the arguments, and the package variables that the reading takes, are together of bulk at most 1048576: NARROWER than '..Said'. Prove '..Said' where nothing that the law and all that it calls make is longer than what came in: it says more and counts as full. Else prove '..UptoSaid'. A law counts once. -/
mutual
def uptoBulk {H : Type} : DataW H → Nat
  | .lit (.string bytes) => bytes.length + 1
  | .lit _ => 1
  | .nil => 1
  | .ptr d => uptoBulk d + 1
  | .slice elems spare => uptoBulkAll elems + uptoBulkAll spare + 1
  | .agg parts => uptoBulkAll parts + 1
  | .iface _ d => uptoBulk d + 1
  | .map entries => uptoBulkEntries entries + 1
  | .held _ => 1
def uptoBulkAll {H : Type} : List (DataW H) → Nat
  | [] => 0
  | d :: r => uptoBulk d + uptoBulkAll r
def uptoBulkEntries {H : Type} : List (Lit × DataW H) → Nat
  | [] => 0
  | x :: r => uptoBulkEntry x + uptoBulkEntries r
def uptoBulkEntry {H : Type} : Lit × DataW H → Nat
  | (.string bytes, d) => bytes.length + uptoBulk d + 1
  | (_, d) => uptoBulk d + 1
 end
def uptoSmall : (H : Type) → List (DataW H) → Bool := fun _ ds => decide (uptoBulkAll ds ≤ 1048576)
def OpenSpec.upto (s : _root_.Go.ChangeSpec) : _root_.Go.OpenSpec := { _root_.Go.OpenSpec.ofChange s with cond := some uptoSmall }

/-- 'doormanlaw08.BookPlays', WHERE WHAT IT READS IS OF BULK AT MOST 1048576: true; the input reads as it did. -/
def bookPlaysUptoRow : OpenClaim := { program := "ytjjemdmbhgmiiaa", sum := "a67796f8c0f07d6c789f9f9663cecd1e459354ec58c642eef27b544c84752773", func := "doorman/doormanlaw08.BookPlays", spec := "bookPlays", inPlace := ["slices.overlaps[doorman/api.Session]"], unfollowed := true, recurses := true, apart := false, narrowed := true }
def BookPlaysUptoSaid : Prop := bookPlaysUptoRow.holds Try.pinned (OpenSpec.upto bookPlaysSpec)

/-- 'doormanlaw08.BookSweeps', WHERE WHAT IT READS IS OF BULK AT MOST 1048576: true; the input reads as it did. -/
def bookSweepsUptoRow : OpenClaim := { program := "ytjjemdmbhgmiiaa", sum := "a67796f8c0f07d6c789f9f9663cecd1e459354ec58c642eef27b544c84752773", func := "doorman/doormanlaw08.BookSweeps", spec := "bookSweeps", inPlace := ["slices.overlaps[doorman/api.Session]"], unfollowed := true, recurses := true, apart := false, narrowed := true }
def BookSweepsUptoSaid : Prop := bookSweepsUptoRow.holds Try.pinned (OpenSpec.upto bookSweepsSpec)

/-- 'doormanlaw08.BookTells', WHERE WHAT IT READS IS OF BULK AT MOST 1048576: true; the input reads as it did. -/
def bookTellsUptoRow : OpenClaim := { program := "ytjjemdmbhgmiiaa", sum := "a67796f8c0f07d6c789f9f9663cecd1e459354ec58c642eef27b544c84752773", func := "doorman/doormanlaw08.BookTells", spec := "bookTells", inPlace := ["slices.overlaps[doorman/api.Session]"], unfollowed := true, recurses := true, apart := false, narrowed := true }
def BookTellsUptoSaid : Prop := bookTellsUptoRow.holds Try.pinned (OpenSpec.upto bookTellsSpec)

/-- 'doormanlaw08.BookOnly', WHERE WHAT IT READS IS OF BULK AT MOST 1048576: true; the input reads as it did. -/
def bookOnlyUptoRow : OpenClaim := { program := "ytjjemdmbhgmiiaa", sum := "a67796f8c0f07d6c789f9f9663cecd1e459354ec58c642eef27b544c84752773", func := "doorman/doormanlaw08.BookOnly", spec := "bookOnly", inPlace := ["slices.overlaps[doorman/api.Session]"], unfollowed := true, recurses := true, apart := false, narrowed := true }
def BookOnlyUptoSaid : Prop := bookOnlyUptoRow.holds Try.pinned (OpenSpec.upto bookOnlySpec)

/-- 'doormanlaw08.BookRoom', WHERE WHAT IT READS IS OF BULK AT MOST 1048576: true; the input reads as it did. -/
def bookRoomUptoRow : OpenClaim := { program := "ytjjemdmbhgmiiaa", sum := "a67796f8c0f07d6c789f9f9663cecd1e459354ec58c642eef27b544c84752773", func := "doorman/doormanlaw08.BookRoom", spec := "bookRoom", inPlace := ["slices.overlaps[doorman/api.Session]"], unfollowed := true, recurses := true, apart := false, narrowed := true }
def BookRoomUptoSaid : Prop := bookRoomUptoRow.holds Try.pinned (OpenSpec.upto bookRoomSpec)

/-- 'doormanlaw08.BookSame', WHERE WHAT IT READS IS OF BULK AT MOST 1048576: true; the input reads as it did. -/
def bookSameUptoRow : OpenClaim := { program := "ytjjemdmbhgmiiaa", sum := "a67796f8c0f07d6c789f9f9663cecd1e459354ec58c642eef27b544c84752773", func := "doorman/doormanlaw08.BookSame", spec := "bookSame", inPlace := ["slices.overlaps[doorman/api.Session]"], unfollowed := true, recurses := true, apart := false, narrowed := true }
def BookSameUptoSaid : Prop := bookSameUptoRow.holds Try.pinned (OpenSpec.upto bookSameSpec)

end Rows
end Go.Proofs.Ytjjemdmbhgmiiaa
