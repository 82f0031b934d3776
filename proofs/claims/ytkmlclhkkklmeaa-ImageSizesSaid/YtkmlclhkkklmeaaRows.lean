/-
  No cell of these rows narrows 'for every input' (looked for: loops, veiled, ifaces, maps, wideKeys, modest, calm, conditions, laid).
  DERIVED. THE GIVEN ROWS OF THIS SEAT. 3 by the template 'for every input the law returns true; each argument reads behind the call as it read before'; 0 by the template 'total and deterministic' (their statements: YtkmlclhkkklmeaaTotals.lean).
  GIVEN WITH THE SEED: the statements are not yours to turn. If you find one false, say at which input.
  Laid BY PROGRAM, IN A SANDBOX (cutbox-rows.mjs): the forced cells as the released guide's own fill.sh prints them over the translation e7916cdfa670032f… (all of the seat's roots in one cut). By AI agents, Wed Nov 11 2026. No macro, syntax, notation, axiom, sorry.
-/
import Derived.Test.YtkmlclhkkklmeaaChecked
import GoSem.Claim
import GoSem.ClaimJoined
import GoSem.ClaimMapViews
import Derived.JoinedTies
import Derived.KernelRfl
namespace Go.Proofs.Ytkmlclhkkklmeaa
/- THE CELL 'sum', in the pinned program and in every row, IS THE sha256 OF THE DUMP (.gsa) THAT YtkmlclhkkklmeaaProg.lean LOADS. Nothing in Lean hashes anything: it is a label: what it is worth is what the hold of that sum in a sandbox is worth. -/
noncomputable def Try.pinned : Pinned := { name := "ytkmlclhkkklmeaa", sum := "e7916cdfa670032f162caac7f5f67e1a1704f72795140724e2e8ebb5691b358d", checked := Try.checked }
namespace Rows
def none {H : Type} : Left H := { results := [], args := [] }

/-- 'foundlinglaw07.ImageChanged': WHATEVER THE INPUT: true; the input reads as it did. -/
def imageChangedSpec : ChangeSpec := { name := "imageChanged", fn := fun _ => fun
  | [d1, d2, d3] => { results := [.lit (.bool true)], args := [d1, d2, d3] }
  | _ => none }
def imageChangedRow : OpenClaim := { program := "ytkmlclhkkklmeaa", sum := "e7916cdfa670032f162caac7f5f67e1a1704f72795140724e2e8ebb5691b358d", func := "foundling/foundlinglaw07.ImageChanged", spec := "imageChanged", unfollowed := true, recurses := true, apart := false }
def ImageChangedSaid : Prop := imageChangedRow.holds Try.pinned (OpenSpec.ofChange imageChangedSpec)

/-- ITS FALSE NEIGHBOUR: 'it returns false'. Refute it at one input. -/
def imageChangedWrong : ChangeSpec := { name := "imageChanged", fn := fun _ => fun
  | [d1, d2, d3] => { results := [.lit (.bool false)], args := [d1, d2, d3] }
  | _ => none }
def ImageChangedWrongFalsely : Prop := imageChangedRow.holds Try.pinned (OpenSpec.ofChange imageChangedWrong)

/-- 'foundlinglaw07.ImageSizes': WHATEVER THE INPUT: true; the input reads as it did. -/
def imageSizesSpec : ChangeSpec := { name := "imageSizes", fn := fun _ => fun
  | [d1, d2] => { results := [.lit (.bool true)], args := [d1, d2] }
  | _ => none }
def imageSizesRow : OpenClaim := { program := "ytkmlclhkkklmeaa", sum := "e7916cdfa670032f162caac7f5f67e1a1704f72795140724e2e8ebb5691b358d", func := "foundling/foundlinglaw07.ImageSizes", spec := "imageSizes", unfollowed := true, recurses := true, apart := false }
def ImageSizesSaid : Prop := imageSizesRow.holds Try.pinned (OpenSpec.ofChange imageSizesSpec)

/-- ITS FALSE NEIGHBOUR: 'it returns false'. Refute it at one input. -/
def imageSizesWrong : ChangeSpec := { name := "imageSizes", fn := fun _ => fun
  | [d1, d2] => { results := [.lit (.bool false)], args := [d1, d2] }
  | _ => none }
def ImageSizesWrongFalsely : Prop := imageSizesRow.holds Try.pinned (OpenSpec.ofChange imageSizesWrong)

/-- 'foundlinglaw08.SoundMarks': WHATEVER THE INPUT: true; the input reads as it did. -/
def soundMarksSpec : ChangeSpec := { name := "soundMarks", fn := fun _ => fun
  | [d1, d2, d3] => { results := [.lit (.bool true)], args := [d1, d2, d3] }
  | _ => none }
def soundMarksRow : OpenClaim := { program := "ytkmlclhkkklmeaa", sum := "e7916cdfa670032f162caac7f5f67e1a1704f72795140724e2e8ebb5691b358d", func := "foundling/foundlinglaw08.SoundMarks", spec := "soundMarks", inPlace := ["internal/bytealg.Compare"], unfollowed := true, recurses := true, apart := false }
def SoundMarksSaid : Prop := soundMarksRow.holds Try.pinned (OpenSpec.ofChange soundMarksSpec)

/-- ITS FALSE NEIGHBOUR: 'it returns false'. Refute it at one input. -/
def soundMarksWrong : ChangeSpec := { name := "soundMarks", fn := fun _ => fun
  | [d1, d2, d3] => { results := [.lit (.bool false)], args := [d1, d2, d3] }
  | _ => none }
def SoundMarksWrongFalsely : Prop := soundMarksRow.holds Try.pinned (OpenSpec.ofChange soundMarksWrong)

/- THE SECOND FORM. 'bulk': how many values and letters a reading holds, each counted each time it is reached (what is shared counts as often as it is met; a slice's spare places count too). A statement '..UptoSaid' is the law's where the arguments, and the package variables that the reading takes, are together of bulk at most 1048576: NARROWER than '..Said'. Prove '..Said' where nothing that the law and all that it calls make is longer than what came in: it says more and counts as full. Else prove '..UptoSaid'. A law counts once. -/
mutual
def uptoBulk {H : Type} : DataW H → Nat
  | .lit (.string bytes) => bytes.length + 1
  | .lit _ => 1
  | .nil => 1
  | .ptr d => uptoBulk d + 1
  | .slice elems spare => uptoBulkAll elems + uptoBulkAll spare + 1
  | .agg parts => uptoBulkAll parts + 1
  | .iface _ d => uptoBulk d + 1
  | .map entries => uptoBulkEntries entries + 1
  | .held _ => 1
def uptoBulkAll {H : Type} : List (DataW H) → Nat
  | [] => 0
  | d :: r => uptoBulk d + uptoBulkAll r
def uptoBulkEntries {H : Type} : List (Lit × DataW H) → Nat
  | [] => 0
  | x :: r => uptoBulkEntry x + uptoBulkEntries r
def uptoBulkEntry {H : Type} : Lit × DataW H → Nat
  | (.string bytes, d) => bytes.length + uptoBulk d + 1
  | (_, d) => uptoBulk d + 1
 end
def uptoSmall : (H : Type) → List (DataW H) → Bool := fun _ ds => decide (uptoBulkAll ds ≤ 1048576)
def OpenSpec.upto (s : _root_.Go.ChangeSpec) : _root_.Go.OpenSpec := { _root_.Go.OpenSpec.ofChange s with cond := some uptoSmall }

/-- 'foundlinglaw07.ImageChanged', WHERE WHAT IT READS IS OF BULK AT MOST 1048576: true; the input reads as it did. -/
def imageChangedUptoRow : OpenClaim := { program := "ytkmlclhkkklmeaa", sum := "e7916cdfa670032f162caac7f5f67e1a1704f72795140724e2e8ebb5691b358d", func := "foundling/foundlinglaw07.ImageChanged", spec := "imageChanged", unfollowed := true, recurses := true, apart := false, narrowed := true }
def ImageChangedUptoSaid : Prop := imageChangedUptoRow.holds Try.pinned (OpenSpec.upto imageChangedSpec)

/-- 'foundlinglaw07.ImageSizes', WHERE WHAT IT READS IS OF BULK AT MOST 1048576: true; the input reads as it did. -/
def imageSizesUptoRow : OpenClaim := { program := "ytkmlclhkkklmeaa", sum := "e7916cdfa670032f162caac7f5f67e1a1704f72795140724e2e8ebb5691b358d", func := "foundling/foundlinglaw07.ImageSizes", spec := "imageSizes", unfollowed := true, recurses := true, apart := false, narrowed := true }
def ImageSizesUptoSaid : Prop := imageSizesUptoRow.holds Try.pinned (OpenSpec.upto imageSizesSpec)

/-- 'foundlinglaw08.SoundMarks', WHERE WHAT IT READS IS OF BULK AT MOST 1048576: true; the input reads as it did. -/
def soundMarksUptoRow : OpenClaim := { program := "ytkmlclhkkklmeaa", sum := "e7916cdfa670032f162caac7f5f67e1a1704f72795140724e2e8ebb5691b358d", func := "foundling/foundlinglaw08.SoundMarks", spec := "soundMarks", inPlace := ["internal/bytealg.Compare"], unfollowed := true, recurses := true, apart := false, narrowed := true }
def SoundMarksUptoSaid : Prop := soundMarksUptoRow.holds Try.pinned (OpenSpec.upto soundMarksSpec)

end Rows
end Go.Proofs.Ytkmlclhkkklmeaa
