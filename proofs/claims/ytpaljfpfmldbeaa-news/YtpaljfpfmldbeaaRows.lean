/-
  NARROWER THAN 'FOR EVERY INPUT', by the rows' own cells (each row's printed sentence says how): Narrows: loops · Levels: loops.
  DERIVED. THE GIVEN ROWS OF THIS SEAT. 5 by the template 'for every input the law returns true; each argument reads behind the call as it read before'; 0 by the template 'total and deterministic' (their statements: YtpaljfpfmldbeaaTotals.lean).
  GIVEN WITH THE SEED: the statements are not yours to turn. If you find one false, say at which input.
  Laid BY PROGRAM, IN A SANDBOX (cutbox-rows.mjs): the forced cells as the released guide's own fill.sh prints them over the translation b3e0bcfd56946245… (all of the seat's roots in one cut). By AI agents, Wed Nov 11 2026. No macro, syntax, notation, axiom, sorry.
-/
import Derived.Test.YtpaljfpfmldbeaaChecked
import GoSem.Claim
import GoSem.ClaimJoined
import GoSem.ClaimMapViews
import Derived.JoinedTies
import Derived.KernelRfl
namespace Go.Proofs.Ytpaljfpfmldbeaa
/- THE CELL 'sum', in the pinned program and in every row, IS THE sha256 OF THE DUMP (.gsa) THAT YtpaljfpfmldbeaaProg.lean LOADS. Nothing in Lean hashes anything: it is a label: what it is worth is what the hold of that sum in a sandbox is worth. -/
noncomputable def Try.pinned : Pinned := { name := "ytpaljfpfmldbeaa", sum := "b3e0bcfd56946245f0b12a91033b2ff6a4bd77302064cbf6c5e8a51dd1792457", checked := Try.checked }
namespace Rows
def none {H : Type} : Left H := { results := [], args := [] }

/-- 'fretworklaw.News': WHATEVER THE INPUT: true; the input reads as it did. -/
def newsSpec : ChangeSpec := { name := "news", fn := fun _ => fun
  | [d1, d2] => { results := [.lit (.bool true)], args := [d1, d2] }
  | _ => none }
def newsRow : OpenClaim := { program := "ytpaljfpfmldbeaa", sum := "b3e0bcfd56946245f0b12a91033b2ff6a4bd77302064cbf6c5e8a51dd1792457", func := "fretwork/fretworklaw.News", spec := "news", unfollowed := true, recurses := true, plainKeys := false, apart := false }
def NewsSaid : Prop := newsRow.holds Try.pinned (OpenSpec.ofChange newsSpec)

/-- ITS FALSE NEIGHBOUR: 'it returns false'. Refute it at one input. -/
def newsWrong : ChangeSpec := { name := "news", fn := fun _ => fun
  | [d1, d2] => { results := [.lit (.bool false)], args := [d1, d2] }
  | _ => none }
def NewsWrongFalsely : Prop := newsRow.holds Try.pinned (OpenSpec.ofChange newsWrong)

/-- 'fretworklaw.Narrows': WHATEVER THE INPUT: true; the input reads as it did. -/
def narrowsSpec : ChangeSpec := { name := "narrows", fn := fun _ => fun
  | [d1, d2] => { results := [.lit (.bool true)], args := [d1, d2] }
  | _ => none }
def narrowsRow : OpenClaim := { program := "ytpaljfpfmldbeaa", sum := "b3e0bcfd56946245f0b12a91033b2ff6a4bd77302064cbf6c5e8a51dd1792457", func := "fretwork/fretworklaw.Narrows", spec := "narrows", unfollowed := true, recurses := true, loops := true, plainKeys := false, apart := false }
def NarrowsSaid : Prop := narrowsRow.holds Try.pinned (OpenSpec.ofChange narrowsSpec)

/-- ITS FALSE NEIGHBOUR: 'it returns false'. Refute it at one input. -/
def narrowsWrong : ChangeSpec := { name := "narrows", fn := fun _ => fun
  | [d1, d2] => { results := [.lit (.bool false)], args := [d1, d2] }
  | _ => none }
def NarrowsWrongFalsely : Prop := narrowsRow.holds Try.pinned (OpenSpec.ofChange narrowsWrong)

/-- 'fretworklaw.Levels': WHATEVER THE INPUT: true; the input reads as it did. -/
def levelsSpec : ChangeSpec := { name := "levels", fn := fun _ => fun
  | [d1, d2] => { results := [.lit (.bool true)], args := [d1, d2] }
  | _ => none }
def levelsRow : OpenClaim := { program := "ytpaljfpfmldbeaa", sum := "b3e0bcfd56946245f0b12a91033b2ff6a4bd77302064cbf6c5e8a51dd1792457", func := "fretwork/fretworklaw.Levels", spec := "levels", unfollowed := true, recurses := true, loops := true, plainKeys := false, apart := false }
def LevelsSaid : Prop := levelsRow.holds Try.pinned (OpenSpec.ofChange levelsSpec)

/-- ITS FALSE NEIGHBOUR: 'it returns false'. Refute it at one input. -/
def levelsWrong : ChangeSpec := { name := "levels", fn := fun _ => fun
  | [d1, d2] => { results := [.lit (.bool false)], args := [d1, d2] }
  | _ => none }
def LevelsWrongFalsely : Prop := levelsRow.holds Try.pinned (OpenSpec.ofChange levelsWrong)

/-- 'fretworkkeep.Supported': WHATEVER THE INPUT: true; the input reads as it did. -/
def supportedSpec : ChangeSpec := { name := "supported", fn := fun _ => fun
  | [d1, d2, d3] => { results := [.lit (.bool true)], args := [d1, d2, d3] }
  | _ => none }
def supportedRow : OpenClaim := { program := "ytpaljfpfmldbeaa", sum := "b3e0bcfd56946245f0b12a91033b2ff6a4bd77302064cbf6c5e8a51dd1792457", func := "fretwork/fretworkkeep.Supported", spec := "supported", unfollowed := true, recurses := true, plainKeys := false, apart := false }
def SupportedSaid : Prop := supportedRow.holds Try.pinned (OpenSpec.ofChange supportedSpec)

/-- ITS FALSE NEIGHBOUR: 'it returns false'. Refute it at one input. -/
def supportedWrong : ChangeSpec := { name := "supported", fn := fun _ => fun
  | [d1, d2, d3] => { results := [.lit (.bool false)], args := [d1, d2, d3] }
  | _ => none }
def SupportedWrongFalsely : Prop := supportedRow.holds Try.pinned (OpenSpec.ofChange supportedWrong)

/-- 'fretworkkeep.Back': WHATEVER THE INPUT: true; the input reads as it did. -/
def backSpec : ChangeSpec := { name := "back", fn := fun _ => fun
  | [d1, d2, d3] => { results := [.lit (.bool true)], args := [d1, d2, d3] }
  | _ => none }
def backRow : OpenClaim := { program := "ytpaljfpfmldbeaa", sum := "b3e0bcfd56946245f0b12a91033b2ff6a4bd77302064cbf6c5e8a51dd1792457", func := "fretwork/fretworkkeep.Back", spec := "back", unfollowed := true, recurses := true, plainKeys := false, apart := false }
def BackSaid : Prop := backRow.holds Try.pinned (OpenSpec.ofChange backSpec)

/-- ITS FALSE NEIGHBOUR: 'it returns false'. Refute it at one input. -/
def backWrong : ChangeSpec := { name := "back", fn := fun _ => fun
  | [d1, d2, d3] => { results := [.lit (.bool false)], args := [d1, d2, d3] }
  | _ => none }
def BackWrongFalsely : Prop := backRow.holds Try.pinned (OpenSpec.ofChange backWrong)

/- THE SECOND FORM. 'bulk': how many values and letters a reading holds, each counted each time it is reached (what is shared counts as often as it is met; a slice's spare places count too). A statement '..UptoSaid' is the law's where the arguments, and the package variables that the reading takes, are together of bulk at most 1048576: NARROWER than '..Said'. Prove '..Said' where nothing that the law and all that it calls make is longer than what came in: it says more and counts as full. Else prove '..UptoSaid'. A law counts once. -/
mutual
def uptoBulk {H : Type} : DataW H → Nat
  | .lit (.string bytes) => bytes.length + 1
  | .lit _ => 1
  | .nil => 1
  | .ptr d => uptoBulk d + 1
  | .slice elems spare => uptoBulkAll elems + uptoBulkAll spare + 1
  | .agg parts => uptoBulkAll parts + 1
  | .iface _ d => uptoBulk d + 1
  | .map entries => uptoBulkEntries entries + 1
  | .held _ => 1
def uptoBulkAll {H : Type} : List (DataW H) → Nat
  | [] => 0
  | d :: r => uptoBulk d + uptoBulkAll r
def uptoBulkEntries {H : Type} : List (Lit × DataW H) → Nat
  | [] => 0
  | x :: r => uptoBulkEntry x + uptoBulkEntries r
def uptoBulkEntry {H : Type} : Lit × DataW H → Nat
  | (.string bytes, d) => bytes.length + uptoBulk d + 1
  | (_, d) => uptoBulk d + 1
 end
def uptoSmall : (H : Type) → List (DataW H) → Bool := fun _ ds => decide (uptoBulkAll ds ≤ 1048576)
def OpenSpec.upto (s : _root_.Go.ChangeSpec) : _root_.Go.OpenSpec := { _root_.Go.OpenSpec.ofChange s with cond := some uptoSmall }

/-- 'fretworklaw.News', WHERE WHAT IT READS IS OF BULK AT MOST 1048576: true; the input reads as it did. -/
def newsUptoRow : OpenClaim := { program := "ytpaljfpfmldbeaa", sum := "b3e0bcfd56946245f0b12a91033b2ff6a4bd77302064cbf6c5e8a51dd1792457", func := "fretwork/fretworklaw.News", spec := "news", unfollowed := true, recurses := true, plainKeys := false, apart := false, narrowed := true }
def NewsUptoSaid : Prop := newsUptoRow.holds Try.pinned (OpenSpec.upto newsSpec)

/-- 'fretworklaw.Narrows', WHERE WHAT IT READS IS OF BULK AT MOST 1048576: true; the input reads as it did. -/
def narrowsUptoRow : OpenClaim := { program := "ytpaljfpfmldbeaa", sum := "b3e0bcfd56946245f0b12a91033b2ff6a4bd77302064cbf6c5e8a51dd1792457", func := "fretwork/fretworklaw.Narrows", spec := "narrows", unfollowed := true, recurses := true, loops := true, plainKeys := false, apart := false, narrowed := true }
def NarrowsUptoSaid : Prop := narrowsUptoRow.holds Try.pinned (OpenSpec.upto narrowsSpec)

/-- 'fretworklaw.Levels', WHERE WHAT IT READS IS OF BULK AT MOST 1048576: true; the input reads as it did. -/
def levelsUptoRow : OpenClaim := { program := "ytpaljfpfmldbeaa", sum := "b3e0bcfd56946245f0b12a91033b2ff6a4bd77302064cbf6c5e8a51dd1792457", func := "fretwork/fretworklaw.Levels", spec := "levels", unfollowed := true, recurses := true, loops := true, plainKeys := false, apart := false, narrowed := true }
def LevelsUptoSaid : Prop := levelsUptoRow.holds Try.pinned (OpenSpec.upto levelsSpec)

/-- 'fretworkkeep.Supported', WHERE WHAT IT READS IS OF BULK AT MOST 1048576: true; the input reads as it did. -/
def supportedUptoRow : OpenClaim := { program := "ytpaljfpfmldbeaa", sum := "b3e0bcfd56946245f0b12a91033b2ff6a4bd77302064cbf6c5e8a51dd1792457", func := "fretwork/fretworkkeep.Supported", spec := "supported", unfollowed := true, recurses := true, plainKeys := false, apart := false, narrowed := true }
def SupportedUptoSaid : Prop := supportedUptoRow.holds Try.pinned (OpenSpec.upto supportedSpec)

/-- 'fretworkkeep.Back', WHERE WHAT IT READS IS OF BULK AT MOST 1048576: true; the input reads as it did. -/
def backUptoRow : OpenClaim := { program := "ytpaljfpfmldbeaa", sum := "b3e0bcfd56946245f0b12a91033b2ff6a4bd77302064cbf6c5e8a51dd1792457", func := "fretwork/fretworkkeep.Back", spec := "back", unfollowed := true, recurses := true, plainKeys := false, apart := false, narrowed := true }
def BackUptoSaid : Prop := backUptoRow.holds Try.pinned (OpenSpec.upto backSpec)

end Rows
end Go.Proofs.Ytpaljfpfmldbeaa
