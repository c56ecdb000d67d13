/-
  NARROWER THAN 'FOR EVERY INPUT', by the rows' own cells (each row's printed sentence says how): Narrows: loops · Levels: loops · Goes: loops · All: loops.
  DERIVED. THE GIVEN ROWS OF THIS SEAT. 4 by the template 'for every input the law returns true; each argument reads behind the call as it read before'; 0 by the template 'total and deterministic' (their statements: YtkjfpdfkcfgfkaaGreatTotals.lean).
  GIVEN WITH THE SEED: the statements are not yours to turn. If you find one false, say at which input.
  Laid BY PROGRAM, IN A SANDBOX (cutbox-rows.mjs): the forced cells as the released guide's own fill.sh prints them over the translation 5a46d1756f4075f0… (all of the seat's roots in one cut). By AI agents, Wed Nov 11 2026. No macro, syntax, notation, axiom, sorry.
-/
import Derived.Test.YtkjfpdfkcfgfkaaGreatChecked
import GoSem.Claim
import GoSem.ClaimJoined
import GoSem.ClaimMapViews
import Derived.JoinedTies
import Derived.KernelRfl
namespace Go.Proofs.YtkjfpdfkcfgfkaaGreat
/- THE CELL 'sum', in the pinned program and in every row, IS THE sha256 OF THE DUMP (.gsa) THAT YtkjfpdfkcfgfkaaGreatProg.lean LOADS. Nothing in Lean hashes anything: it is a label: what it is worth is what the hold of that sum in a sandbox is worth. -/
noncomputable def Tryz.pinned : Pinned := { name := "ytkjfpdfkcfgfkaagreat", sum := "5a46d1756f4075f07da62b44b882103bcf81c2b6877bd4a5f653959b45918626", checked := Tryz.checked }
namespace Rows
def none {H : Type} : Left H := { results := [], args := [] }

/-- 'fretworklaw.Narrows': WHATEVER THE INPUT: true; the input reads as it did. -/
def narrowsSpec : ChangeSpec := { name := "narrows", fn := fun _ => fun
  | [d1, d2] => { results := [.lit (.bool true)], args := [d1, d2] }
  | _ => none }
def narrowsRow : OpenClaim := { program := "ytkjfpdfkcfgfkaagreat", sum := "5a46d1756f4075f07da62b44b882103bcf81c2b6877bd4a5f653959b45918626", func := "fretwork/fretworklaw.Narrows", spec := "narrows", unfollowed := true, recurses := true, loops := true, plainKeys := false, apart := false }
def NarrowsSaid : Prop := narrowsRow.holds Tryz.pinned (OpenSpec.ofChange narrowsSpec)

/-- ITS FALSE NEIGHBOUR: 'it returns false'. Refute it at one input. -/
def narrowsWrong : ChangeSpec := { name := "narrows", fn := fun _ => fun
  | [d1, d2] => { results := [.lit (.bool false)], args := [d1, d2] }
  | _ => none }
def NarrowsWrongFalsely : Prop := narrowsRow.holds Tryz.pinned (OpenSpec.ofChange narrowsWrong)

/-- 'fretworklaw.Levels': WHATEVER THE INPUT: true; the input reads as it did. -/
def levelsSpec : ChangeSpec := { name := "levels", fn := fun _ => fun
  | [d1, d2] => { results := [.lit (.bool true)], args := [d1, d2] }
  | _ => none }
def levelsRow : OpenClaim := { program := "ytkjfpdfkcfgfkaagreat", sum := "5a46d1756f4075f07da62b44b882103bcf81c2b6877bd4a5f653959b45918626", func := "fretwork/fretworklaw.Levels", spec := "levels", unfollowed := true, recurses := true, loops := true, plainKeys := false, apart := false }
def LevelsSaid : Prop := levelsRow.holds Tryz.pinned (OpenSpec.ofChange levelsSpec)

/-- ITS FALSE NEIGHBOUR: 'it returns false'. Refute it at one input. -/
def levelsWrong : ChangeSpec := { name := "levels", fn := fun _ => fun
  | [d1, d2] => { results := [.lit (.bool false)], args := [d1, d2] }
  | _ => none }
def LevelsWrongFalsely : Prop := levelsRow.holds Tryz.pinned (OpenSpec.ofChange levelsWrong)

/-- 'fretworklaw.Goes': WHATEVER THE INPUT: true; the input reads as it did. -/
def goesSpec : ChangeSpec := { name := "goes", fn := fun _ => fun
  | [d1, d2] => { results := [.lit (.bool true)], args := [d1, d2] }
  | _ => none }
def goesRow : OpenClaim := { program := "ytkjfpdfkcfgfkaagreat", sum := "5a46d1756f4075f07da62b44b882103bcf81c2b6877bd4a5f653959b45918626", func := "fretwork/fretworklaw.Goes", spec := "goes", unfollowed := true, recurses := true, loops := true, plainKeys := false, apart := false }
def GoesSaid : Prop := goesRow.holds Tryz.pinned (OpenSpec.ofChange goesSpec)

/-- ITS FALSE NEIGHBOUR: 'it returns false'. Refute it at one input. -/
def goesWrong : ChangeSpec := { name := "goes", fn := fun _ => fun
  | [d1, d2] => { results := [.lit (.bool false)], args := [d1, d2] }
  | _ => none }
def GoesWrongFalsely : Prop := goesRow.holds Tryz.pinned (OpenSpec.ofChange goesWrong)

/-- 'fretworklaw.All': WHATEVER THE INPUT: true; the input reads as it did. -/
def allSpec : ChangeSpec := { name := "all", fn := fun _ => fun
  | [d1, d2, d3] => { results := [.lit (.bool true)], args := [d1, d2, d3] }
  | _ => none }
def allRow : OpenClaim := { program := "ytkjfpdfkcfgfkaagreat", sum := "5a46d1756f4075f07da62b44b882103bcf81c2b6877bd4a5f653959b45918626", func := "fretwork/fretworklaw.All", spec := "all", unfollowed := true, recurses := true, loops := true, plainKeys := false, apart := false }
def AllSaid : Prop := allRow.holds Tryz.pinned (OpenSpec.ofChange allSpec)

/-- ITS FALSE NEIGHBOUR: 'it returns false'. Refute it at one input. -/
def allWrong : ChangeSpec := { name := "all", fn := fun _ => fun
  | [d1, d2, d3] => { results := [.lit (.bool false)], args := [d1, d2, d3] }
  | _ => none }
def AllWrongFalsely : Prop := allRow.holds Tryz.pinned (OpenSpec.ofChange allWrong)

/- THE SECOND FORM. 'bulk': how many values and letters a reading holds, each counted each time it is reached (what is shared counts as often as it is met; a slice's spare places count too). A statement '..UptoSaid' is the law's where the arguments, and the package variables that the reading takes, are together of bulk at most 1048576: NARROWER than '..Said'. Prove '..Said' where nothing that the law and all that it calls make is longer than what came in: it says more and counts as full. Else prove '..UptoSaid'. A law counts once. -/
mutual
def uptoBulk {H : Type} : DataW H → Nat
  | .lit (.string bytes) => bytes.length + 1
  | .lit _ => 1
  | .nil => 1
  | .ptr d => uptoBulk d + 1
  | .slice elems spare => uptoBulkAll elems + uptoBulkAll spare + 1
  | .agg parts => uptoBulkAll parts + 1
  | .iface _ d => uptoBulk d + 1
  | .map entries => uptoBulkEntries entries + 1
  | .held _ => 1
def uptoBulkAll {H : Type} : List (DataW H) → Nat
  | [] => 0
  | d :: r => uptoBulk d + uptoBulkAll r
def uptoBulkEntries {H : Type} : List (Lit × DataW H) → Nat
  | [] => 0
  | x :: r => uptoBulkEntry x + uptoBulkEntries r
def uptoBulkEntry {H : Type} : Lit × DataW H → Nat
  | (.string bytes, d) => bytes.length + uptoBulk d + 1
  | (_, d) => uptoBulk d + 1
 end
def uptoSmall : (H : Type) → List (DataW H) → Bool := fun _ ds => decide (uptoBulkAll ds ≤ 1048576)
def OpenSpec.upto (s : _root_.Go.ChangeSpec) : _root_.Go.OpenSpec := { _root_.Go.OpenSpec.ofChange s with cond := some uptoSmall }

/-- 'fretworklaw.Narrows', WHERE WHAT IT READS IS OF BULK AT MOST 1048576: true; the input reads as it did. -/
def narrowsUptoRow : OpenClaim := { program := "ytkjfpdfkcfgfkaagreat", sum := "5a46d1756f4075f07da62b44b882103bcf81c2b6877bd4a5f653959b45918626", func := "fretwork/fretworklaw.Narrows", spec := "narrows", unfollowed := true, recurses := true, loops := true, plainKeys := false, apart := false, narrowed := true }
def NarrowsUptoSaid : Prop := narrowsUptoRow.holds Tryz.pinned (OpenSpec.upto narrowsSpec)

/-- 'fretworklaw.Levels', WHERE WHAT IT READS IS OF BULK AT MOST 1048576: true; the input reads as it did. -/
def levelsUptoRow : OpenClaim := { program := "ytkjfpdfkcfgfkaagreat", sum := "5a46d1756f4075f07da62b44b882103bcf81c2b6877bd4a5f653959b45918626", func := "fretwork/fretworklaw.Levels", spec := "levels", unfollowed := true, recurses := true, loops := true, plainKeys := false, apart := false, narrowed := true }
def LevelsUptoSaid : Prop := levelsUptoRow.holds Tryz.pinned (OpenSpec.upto levelsSpec)

/-- 'fretworklaw.Goes', WHERE WHAT IT READS IS OF BULK AT MOST 1048576: true; the input reads as it did. -/
def goesUptoRow : OpenClaim := { program := "ytkjfpdfkcfgfkaagreat", sum := "5a46d1756f4075f07da62b44b882103bcf81c2b6877bd4a5f653959b45918626", func := "fretwork/fretworklaw.Goes", spec := "goes", unfollowed := true, recurses := true, loops := true, plainKeys := false, apart := false, narrowed := true }
def GoesUptoSaid : Prop := goesUptoRow.holds Tryz.pinned (OpenSpec.upto goesSpec)

/-- 'fretworklaw.All', WHERE WHAT IT READS IS OF BULK AT MOST 1048576: true; the input reads as it did. -/
def allUptoRow : OpenClaim := { program := "ytkjfpdfkcfgfkaagreat", sum := "5a46d1756f4075f07da62b44b882103bcf81c2b6877bd4a5f653959b45918626", func := "fretwork/fretworklaw.All", spec := "all", unfollowed := true, recurses := true, loops := true, plainKeys := false, apart := false, narrowed := true }
def AllUptoSaid : Prop := allUptoRow.holds Tryz.pinned (OpenSpec.upto allSpec)

end Rows
end Go.Proofs.YtkjfpdfkcfgfkaaGreat
