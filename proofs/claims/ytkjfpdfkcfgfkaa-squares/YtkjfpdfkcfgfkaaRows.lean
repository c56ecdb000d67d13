/-
  No cell of these rows narrows 'for every input' (looked for: loops, veiled, ifaces, maps, wideKeys, modest, calm, conditions, laid).
  DERIVED. THE GIVEN ROWS OF THIS SEAT. 6 by the template 'for every input the law returns true; each argument reads behind the call as it read before'; 0 by the template 'total and deterministic' (their statements: YtkjfpdfkcfgfkaaTotals.lean).
  GIVEN WITH THE SEED: the statements are not yours to turn. If you find one false, say at which input.
  Laid BY PROGRAM, IN A SANDBOX (cutbox-rows.mjs): the forced cells as the released guide's own fill.sh prints them over the translation 40d06e95c9bd82f9… (all of the seat's roots in one cut). By AI agents, Wed Nov 11 2026. No macro, syntax, notation, axiom, sorry.
-/
import Derived.Test.YtkjfpdfkcfgfkaaChecked
import GoSem.Claim
import GoSem.ClaimJoined
import GoSem.ClaimMapViews
import Derived.JoinedTies
import Derived.KernelRfl
namespace Go.Proofs.Ytkjfpdfkcfgfkaa
/- THE CELL 'sum', in the pinned program and in every row, IS THE sha256 OF THE DUMP (.gsa) THAT YtkjfpdfkcfgfkaaProg.lean LOADS. Nothing in Lean hashes anything: it is a label: what it is worth is what the hold of that sum in a sandbox is worth. -/
noncomputable def Try.pinned : Pinned := { name := "ytkjfpdfkcfgfkaa", sum := "40d06e95c9bd82f9c1f479439a03a32ed52ecc4e4440a089d7ff9f212ac52370", checked := Try.checked }
namespace Rows
def none {H : Type} : Left H := { results := [], args := [] }

/-- 'fretworklaw.News': WHATEVER THE INPUT: true; the input reads as it did. -/
def newsSpec : ChangeSpec := { name := "news", fn := fun _ => fun
  | [d1, d2] => { results := [.lit (.bool true)], args := [d1, d2] }
  | _ => none }
def newsRow : OpenClaim := { program := "ytkjfpdfkcfgfkaa", sum := "40d06e95c9bd82f9c1f479439a03a32ed52ecc4e4440a089d7ff9f212ac52370", func := "fretwork/fretworklaw.News", spec := "news", unfollowed := true, recurses := true, plainKeys := false, apart := false }
def NewsSaid : Prop := newsRow.holds Try.pinned (OpenSpec.ofChange newsSpec)

/-- ITS FALSE NEIGHBOUR: 'it returns false'. Refute it at one input. -/
def newsWrong : ChangeSpec := { name := "news", fn := fun _ => fun
  | [d1, d2] => { results := [.lit (.bool false)], args := [d1, d2] }
  | _ => none }
def NewsWrongFalsely : Prop := newsRow.holds Try.pinned (OpenSpec.ofChange newsWrong)

/-- 'fretworkkeep.Supported': WHATEVER THE INPUT: true; the input reads as it did. -/
def supportedSpec : ChangeSpec := { name := "supported", fn := fun _ => fun
  | [d1, d2, d3] => { results := [.lit (.bool true)], args := [d1, d2, d3] }
  | _ => none }
def supportedRow : OpenClaim := { program := "ytkjfpdfkcfgfkaa", sum := "40d06e95c9bd82f9c1f479439a03a32ed52ecc4e4440a089d7ff9f212ac52370", func := "fretwork/fretworkkeep.Supported", spec := "supported", unfollowed := true, recurses := true, plainKeys := false, apart := false }
def SupportedSaid : Prop := supportedRow.holds Try.pinned (OpenSpec.ofChange supportedSpec)

/-- ITS FALSE NEIGHBOUR: 'it returns false'. Refute it at one input. -/
def supportedWrong : ChangeSpec := { name := "supported", fn := fun _ => fun
  | [d1, d2, d3] => { results := [.lit (.bool false)], args := [d1, d2, d3] }
  | _ => none }
def SupportedWrongFalsely : Prop := supportedRow.holds Try.pinned (OpenSpec.ofChange supportedWrong)

/-- 'fretworkkeep.Back': WHATEVER THE INPUT: true; the input reads as it did. -/
def backSpec : ChangeSpec := { name := "back", fn := fun _ => fun
  | [d1, d2, d3] => { results := [.lit (.bool true)], args := [d1, d2, d3] }
  | _ => none }
def backRow : OpenClaim := { program := "ytkjfpdfkcfgfkaa", sum := "40d06e95c9bd82f9c1f479439a03a32ed52ecc4e4440a089d7ff9f212ac52370", func := "fretwork/fretworkkeep.Back", spec := "back", unfollowed := true, recurses := true, plainKeys := false, apart := false }
def BackSaid : Prop := backRow.holds Try.pinned (OpenSpec.ofChange backSpec)

/-- ITS FALSE NEIGHBOUR: 'it returns false'. Refute it at one input. -/
def backWrong : ChangeSpec := { name := "back", fn := fun _ => fun
  | [d1, d2, d3] => { results := [.lit (.bool false)], args := [d1, d2, d3] }
  | _ => none }
def BackWrongFalsely : Prop := backRow.holds Try.pinned (OpenSpec.ofChange backWrong)

/-- 'fretworkkeep.Kept': WHATEVER THE INPUT: true; the input reads as it did. -/
def keptSpec : ChangeSpec := { name := "kept", fn := fun _ => fun
  | [d1, d2] => { results := [.lit (.bool true)], args := [d1, d2] }
  | _ => none }
def keptRow : OpenClaim := { program := "ytkjfpdfkcfgfkaa", sum := "40d06e95c9bd82f9c1f479439a03a32ed52ecc4e4440a089d7ff9f212ac52370", func := "fretwork/fretworkkeep.Kept", spec := "kept", unfollowed := true, recurses := true, plainKeys := false, apart := false }
def KeptSaid : Prop := keptRow.holds Try.pinned (OpenSpec.ofChange keptSpec)

/-- ITS FALSE NEIGHBOUR: 'it returns false'. Refute it at one input. -/
def keptWrong : ChangeSpec := { name := "kept", fn := fun _ => fun
  | [d1, d2] => { results := [.lit (.bool false)], args := [d1, d2] }
  | _ => none }
def KeptWrongFalsely : Prop := keptRow.holds Try.pinned (OpenSpec.ofChange keptWrong)

/-- 'fretworkkeep.Alike': WHATEVER THE INPUT: true; the input reads as it did. -/
def alikeSpec : ChangeSpec := { name := "alike", fn := fun _ => fun
  | [d1, d2, d3] => { results := [.lit (.bool true)], args := [d1, d2, d3] }
  | _ => none }
def alikeRow : OpenClaim := { program := "ytkjfpdfkcfgfkaa", sum := "40d06e95c9bd82f9c1f479439a03a32ed52ecc4e4440a089d7ff9f212ac52370", func := "fretwork/fretworkkeep.Alike", spec := "alike", unfollowed := true, recurses := true, plainKeys := false, apart := false }
def AlikeSaid : Prop := alikeRow.holds Try.pinned (OpenSpec.ofChange alikeSpec)

/-- ITS FALSE NEIGHBOUR: 'it returns false'. Refute it at one input. -/
def alikeWrong : ChangeSpec := { name := "alike", fn := fun _ => fun
  | [d1, d2, d3] => { results := [.lit (.bool false)], args := [d1, d2, d3] }
  | _ => none }
def AlikeWrongFalsely : Prop := alikeRow.holds Try.pinned (OpenSpec.ofChange alikeWrong)

/-- 'fretworkkeep.Squares': WHATEVER THE INPUT: true; the input reads as it did. -/
def squaresSpec : ChangeSpec := { name := "squares", fn := fun _ => fun
  | [d] => { results := [.lit (.bool true)], args := [d] }
  | _ => none }
def squaresRow : OpenClaim := { program := "ytkjfpdfkcfgfkaa", sum := "40d06e95c9bd82f9c1f479439a03a32ed52ecc4e4440a089d7ff9f212ac52370", func := "fretwork/fretworkkeep.Squares", spec := "squares", unfollowed := true, recurses := true, plainKeys := false, apart := false }
def SquaresSaid : Prop := squaresRow.holds Try.pinned (OpenSpec.ofChange squaresSpec)

/-- ITS FALSE NEIGHBOUR: 'it returns false'. Refute it at one input. -/
def squaresWrong : ChangeSpec := { name := "squares", fn := fun _ => fun
  | [d] => { results := [.lit (.bool false)], args := [d] }
  | _ => none }
def SquaresWrongFalsely : Prop := squaresRow.holds Try.pinned (OpenSpec.ofChange squaresWrong)

/- THE SECOND FORM. 'bulk': how many values and letters a reading holds, each counted each time it is reached (what is shared counts as often as it is met; a slice's spare places count too). A statement '..UptoSaid' is the law's where the arguments, and the package variables that the reading takes, are together of bulk at most 1048576: NARROWER than '..Said'. Prove '..Said' where nothing that the law and all that it calls make is longer than what came in: it says more and counts as full. Else prove '..UptoSaid'. A law counts once. -/
mutual
def uptoBulk {H : Type} : DataW H → Nat
  | .lit (.string bytes) => bytes.length + 1
  | .lit _ => 1
  | .nil => 1
  | .ptr d => uptoBulk d + 1
  | .slice elems spare => uptoBulkAll elems + uptoBulkAll spare + 1
  | .agg parts => uptoBulkAll parts + 1
  | .iface _ d => uptoBulk d + 1
  | .map entries => uptoBulkEntries entries + 1
  | .held _ => 1
def uptoBulkAll {H : Type} : List (DataW H) → Nat
  | [] => 0
  | d :: r => uptoBulk d + uptoBulkAll r
def uptoBulkEntries {H : Type} : List (Lit × DataW H) → Nat
  | [] => 0
  | x :: r => uptoBulkEntry x + uptoBulkEntries r
def uptoBulkEntry {H : Type} : Lit × DataW H → Nat
  | (.string bytes, d) => bytes.length + uptoBulk d + 1
  | (_, d) => uptoBulk d + 1
 end
def uptoSmall : (H : Type) → List (DataW H) → Bool := fun _ ds => decide (uptoBulkAll ds ≤ 1048576)
def OpenSpec.upto (s : _root_.Go.ChangeSpec) : _root_.Go.OpenSpec := { _root_.Go.OpenSpec.ofChange s with cond := some uptoSmall }

/-- 'fretworklaw.News', WHERE WHAT IT READS IS OF BULK AT MOST 1048576: true; the input reads as it did. -/
def newsUptoRow : OpenClaim := { program := "ytkjfpdfkcfgfkaa", sum := "40d06e95c9bd82f9c1f479439a03a32ed52ecc4e4440a089d7ff9f212ac52370", func := "fretwork/fretworklaw.News", spec := "news", unfollowed := true, recurses := true, plainKeys := false, apart := false, narrowed := true }
def NewsUptoSaid : Prop := newsUptoRow.holds Try.pinned (OpenSpec.upto newsSpec)

/-- 'fretworkkeep.Supported', WHERE WHAT IT READS IS OF BULK AT MOST 1048576: true; the input reads as it did. -/
def supportedUptoRow : OpenClaim := { program := "ytkjfpdfkcfgfkaa", sum := "40d06e95c9bd82f9c1f479439a03a32ed52ecc4e4440a089d7ff9f212ac52370", func := "fretwork/fretworkkeep.Supported", spec := "supported", unfollowed := true, recurses := true, plainKeys := false, apart := false, narrowed := true }
def SupportedUptoSaid : Prop := supportedUptoRow.holds Try.pinned (OpenSpec.upto supportedSpec)

/-- 'fretworkkeep.Back', WHERE WHAT IT READS IS OF BULK AT MOST 1048576: true; the input reads as it did. -/
def backUptoRow : OpenClaim := { program := "ytkjfpdfkcfgfkaa", sum := "40d06e95c9bd82f9c1f479439a03a32ed52ecc4e4440a089d7ff9f212ac52370", func := "fretwork/fretworkkeep.Back", spec := "back", unfollowed := true, recurses := true, plainKeys := false, apart := false, narrowed := true }
def BackUptoSaid : Prop := backUptoRow.holds Try.pinned (OpenSpec.upto backSpec)

/-- 'fretworkkeep.Kept', WHERE WHAT IT READS IS OF BULK AT MOST 1048576: true; the input reads as it did. -/
def keptUptoRow : OpenClaim := { program := "ytkjfpdfkcfgfkaa", sum := "40d06e95c9bd82f9c1f479439a03a32ed52ecc4e4440a089d7ff9f212ac52370", func := "fretwork/fretworkkeep.Kept", spec := "kept", unfollowed := true, recurses := true, plainKeys := false, apart := false, narrowed := true }
def KeptUptoSaid : Prop := keptUptoRow.holds Try.pinned (OpenSpec.upto keptSpec)

/-- 'fretworkkeep.Alike', WHERE WHAT IT READS IS OF BULK AT MOST 1048576: true; the input reads as it did. -/
def alikeUptoRow : OpenClaim := { program := "ytkjfpdfkcfgfkaa", sum := "40d06e95c9bd82f9c1f479439a03a32ed52ecc4e4440a089d7ff9f212ac52370", func := "fretwork/fretworkkeep.Alike", spec := "alike", unfollowed := true, recurses := true, plainKeys := false, apart := false, narrowed := true }
def AlikeUptoSaid : Prop := alikeUptoRow.holds Try.pinned (OpenSpec.upto alikeSpec)

/-- 'fretworkkeep.Squares', WHERE WHAT IT READS IS OF BULK AT MOST 1048576: true; the input reads as it did. -/
def squaresUptoRow : OpenClaim := { program := "ytkjfpdfkcfgfkaa", sum := "40d06e95c9bd82f9c1f479439a03a32ed52ecc4e4440a089d7ff9f212ac52370", func := "fretwork/fretworkkeep.Squares", spec := "squares", unfollowed := true, recurses := true, plainKeys := false, apart := false, narrowed := true }
def SquaresUptoSaid : Prop := squaresUptoRow.holds Try.pinned (OpenSpec.upto squaresSpec)

end Rows
end Go.Proofs.Ytkjfpdfkcfgfkaa
