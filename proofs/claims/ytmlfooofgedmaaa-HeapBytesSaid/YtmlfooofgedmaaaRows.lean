/-
  No cell of these rows narrows 'for every input' (looked for: loops, veiled, ifaces, maps, wideKeys, modest, calm, conditions, laid).
  DERIVED. THE GIVEN ROWS OF THIS SEAT. 6 by the template 'for every input the law returns true; each argument reads behind the call as it read before'; 0 by the template 'total and deterministic' (their statements: YtmlfooofgedmaaaTotals.lean).
  GIVEN WITH THE SEED: the statements are not yours to turn. If you find one false, say at which input.
  Laid BY PROGRAM, IN A SANDBOX (cutbox-rows.mjs): the forced cells as the released guide's own fill.sh prints them over the translation c06d3b6754a3c1d8… (all of the seat's roots in one cut). By AI agents, Wed Nov 11 2026. No macro, syntax, notation, axiom, sorry.
-/
import Derived.Test.YtmlfooofgedmaaaChecked
import GoSem.Claim
import GoSem.ClaimJoined
import GoSem.ClaimMapViews
import Derived.JoinedTies
import Derived.KernelRfl
namespace Go.Proofs.Ytmlfooofgedmaaa
/- THE CELL 'sum', in the pinned program and in every row, IS THE sha256 OF THE DUMP (.gsa) THAT YtmlfooofgedmaaaProg.lean LOADS. Nothing in Lean hashes anything: it is a label: what it is worth is what the hold of that sum in a sandbox is worth. -/
noncomputable def Try.pinned : Pinned := { name := "ytmlfooofgedmaaa", sum := "c06d3b6754a3c1d8eaca366cda223ff4ccac87db1279b87ac889c7878b4519f2", checked := Try.checked }
namespace Rows
def none {H : Type} : Left H := { results := [], args := [] }

/-- 'foundlinglaw03.HeadPacks': WHATEVER THE INPUT: true; the input reads as it did. -/
def headPacksSpec : ChangeSpec := { name := "headPacks", fn := fun _ => fun
  | [d] => { results := [.lit (.bool true)], args := [d] }
  | _ => none }
def headPacksRow : OpenClaim := { program := "ytmlfooofgedmaaa", sum := "c06d3b6754a3c1d8eaca366cda223ff4ccac87db1279b87ac889c7878b4519f2", func := "foundling/foundlinglaw03.HeadPacks", spec := "headPacks", apart := false }
def HeadPacksSaid : Prop := headPacksRow.holds Try.pinned (OpenSpec.ofChange headPacksSpec)

/-- ITS FALSE NEIGHBOUR: 'it returns false'. Refute it at one input. -/
def headPacksWrong : ChangeSpec := { name := "headPacks", fn := fun _ => fun
  | [d] => { results := [.lit (.bool false)], args := [d] }
  | _ => none }
def HeadPacksWrongFalsely : Prop := headPacksRow.holds Try.pinned (OpenSpec.ofChange headPacksWrong)

/-- 'foundlinglaw03.HeadUnpacks': WHATEVER THE INPUT: true; the input reads as it did. -/
def headUnpacksSpec : ChangeSpec := { name := "headUnpacks", fn := fun _ => fun
  | [d1, d2] => { results := [.lit (.bool true)], args := [d1, d2] }
  | _ => none }
def headUnpacksRow : OpenClaim := { program := "ytmlfooofgedmaaa", sum := "c06d3b6754a3c1d8eaca366cda223ff4ccac87db1279b87ac889c7878b4519f2", func := "foundling/foundlinglaw03.HeadUnpacks", spec := "headUnpacks", apart := false }
def HeadUnpacksSaid : Prop := headUnpacksRow.holds Try.pinned (OpenSpec.ofChange headUnpacksSpec)

/-- ITS FALSE NEIGHBOUR: 'it returns false'. Refute it at one input. -/
def headUnpacksWrong : ChangeSpec := { name := "headUnpacks", fn := fun _ => fun
  | [d1, d2] => { results := [.lit (.bool false)], args := [d1, d2] }
  | _ => none }
def HeadUnpacksWrongFalsely : Prop := headUnpacksRow.holds Try.pinned (OpenSpec.ofChange headUnpacksWrong)

/-- 'foundlinglaw03.HeadPoints': WHATEVER THE INPUT: true; the input reads as it did. -/
def headPointsSpec : ChangeSpec := { name := "headPoints", fn := fun _ => fun
  | [d1, d2] => { results := [.lit (.bool true)], args := [d1, d2] }
  | _ => none }
def headPointsRow : OpenClaim := { program := "ytmlfooofgedmaaa", sum := "c06d3b6754a3c1d8eaca366cda223ff4ccac87db1279b87ac889c7878b4519f2", func := "foundling/foundlinglaw03.HeadPoints", spec := "headPoints", apart := false }
def HeadPointsSaid : Prop := headPointsRow.holds Try.pinned (OpenSpec.ofChange headPointsSpec)

/-- ITS FALSE NEIGHBOUR: 'it returns false'. Refute it at one input. -/
def headPointsWrong : ChangeSpec := { name := "headPoints", fn := fun _ => fun
  | [d1, d2] => { results := [.lit (.bool false)], args := [d1, d2] }
  | _ => none }
def HeadPointsWrongFalsely : Prop := headPointsRow.holds Try.pinned (OpenSpec.ofChange headPointsWrong)

/-- 'foundlinglaw03.HeadBits': WHATEVER THE INPUT: true; the input reads as it did. -/
def headBitsSpec : ChangeSpec := { name := "headBits", fn := fun _ => fun
  | [d1, d2] => { results := [.lit (.bool true)], args := [d1, d2] }
  | _ => none }
def headBitsRow : OpenClaim := { program := "ytmlfooofgedmaaa", sum := "c06d3b6754a3c1d8eaca366cda223ff4ccac87db1279b87ac889c7878b4519f2", func := "foundling/foundlinglaw03.HeadBits", spec := "headBits", apart := false }
def HeadBitsSaid : Prop := headBitsRow.holds Try.pinned (OpenSpec.ofChange headBitsSpec)

/-- ITS FALSE NEIGHBOUR: 'it returns false'. Refute it at one input. -/
def headBitsWrong : ChangeSpec := { name := "headBits", fn := fun _ => fun
  | [d1, d2] => { results := [.lit (.bool false)], args := [d1, d2] }
  | _ => none }
def HeadBitsWrongFalsely : Prop := headBitsRow.holds Try.pinned (OpenSpec.ofChange headBitsWrong)

/-- 'foundlinglaw04.HeapFills': WHATEVER THE INPUT: true; the input reads as it did. -/
def heapFillsSpec : ChangeSpec := { name := "heapFills", fn := fun _ => fun
  | [d1, d2] => { results := [.lit (.bool true)], args := [d1, d2] }
  | _ => none }
def heapFillsRow : OpenClaim := { program := "ytmlfooofgedmaaa", sum := "c06d3b6754a3c1d8eaca366cda223ff4ccac87db1279b87ac889c7878b4519f2", func := "foundling/foundlinglaw04.HeapFills", spec := "heapFills", apart := false }
def HeapFillsSaid : Prop := heapFillsRow.holds Try.pinned (OpenSpec.ofChange heapFillsSpec)

/-- ITS FALSE NEIGHBOUR: 'it returns false'. Refute it at one input. -/
def heapFillsWrong : ChangeSpec := { name := "heapFills", fn := fun _ => fun
  | [d1, d2] => { results := [.lit (.bool false)], args := [d1, d2] }
  | _ => none }
def HeapFillsWrongFalsely : Prop := heapFillsRow.holds Try.pinned (OpenSpec.ofChange heapFillsWrong)

/-- 'foundlinglaw04.HeapBytes': WHATEVER THE INPUT: true; the input reads as it did. -/
def heapBytesSpec : ChangeSpec := { name := "heapBytes", fn := fun _ => fun
  | [d1, d2, d3] => { results := [.lit (.bool true)], args := [d1, d2, d3] }
  | _ => none }
def heapBytesRow : OpenClaim := { program := "ytmlfooofgedmaaa", sum := "c06d3b6754a3c1d8eaca366cda223ff4ccac87db1279b87ac889c7878b4519f2", func := "foundling/foundlinglaw04.HeapBytes", spec := "heapBytes", apart := false }
def HeapBytesSaid : Prop := heapBytesRow.holds Try.pinned (OpenSpec.ofChange heapBytesSpec)

/-- ITS FALSE NEIGHBOUR: 'it returns false'. Refute it at one input. -/
def heapBytesWrong : ChangeSpec := { name := "heapBytes", fn := fun _ => fun
  | [d1, d2, d3] => { results := [.lit (.bool false)], args := [d1, d2, d3] }
  | _ => none }
def HeapBytesWrongFalsely : Prop := heapBytesRow.holds Try.pinned (OpenSpec.ofChange heapBytesWrong)

/- THE SECOND FORM. 'bulk': how many values and letters a reading holds, each counted each time it is reached (what is shared counts as often as it is met; a slice's spare places count too). A statement '..UptoSaid' is the law's where the arguments, and the package variables that the reading takes, are together of bulk at most 1048576: NARROWER than '..Said'. Prove '..Said' where nothing that the law and all that it calls make is longer than what came in: it says more and counts as full. Else prove '..UptoSaid'. A law counts once. -/
mutual
def uptoBulk {H : Type} : DataW H → Nat
  | .lit (.string bytes) => bytes.length + 1
  | .lit _ => 1
  | .nil => 1
  | .ptr d => uptoBulk d + 1
  | .slice elems spare => uptoBulkAll elems + uptoBulkAll spare + 1
  | .agg parts => uptoBulkAll parts + 1
  | .iface _ d => uptoBulk d + 1
  | .map entries => uptoBulkEntries entries + 1
  | .held _ => 1
def uptoBulkAll {H : Type} : List (DataW H) → Nat
  | [] => 0
  | d :: r => uptoBulk d + uptoBulkAll r
def uptoBulkEntries {H : Type} : List (Lit × DataW H) → Nat
  | [] => 0
  | x :: r => uptoBulkEntry x + uptoBulkEntries r
def uptoBulkEntry {H : Type} : Lit × DataW H → Nat
  | (.string bytes, d) => bytes.length + uptoBulk d + 1
  | (_, d) => uptoBulk d + 1
 end
def uptoSmall : (H : Type) → List (DataW H) → Bool := fun _ ds => decide (uptoBulkAll ds ≤ 1048576)
def OpenSpec.upto (s : _root_.Go.ChangeSpec) : _root_.Go.OpenSpec := { _root_.Go.OpenSpec.ofChange s with cond := some uptoSmall }

/-- 'foundlinglaw03.HeadPacks', WHERE WHAT IT READS IS OF BULK AT MOST 1048576: true; the input reads as it did. -/
def headPacksUptoRow : OpenClaim := { program := "ytmlfooofgedmaaa", sum := "c06d3b6754a3c1d8eaca366cda223ff4ccac87db1279b87ac889c7878b4519f2", func := "foundling/foundlinglaw03.HeadPacks", spec := "headPacks", apart := false, narrowed := true }
def HeadPacksUptoSaid : Prop := headPacksUptoRow.holds Try.pinned (OpenSpec.upto headPacksSpec)

/-- 'foundlinglaw03.HeadUnpacks', WHERE WHAT IT READS IS OF BULK AT MOST 1048576: true; the input reads as it did. -/
def headUnpacksUptoRow : OpenClaim := { program := "ytmlfooofgedmaaa", sum := "c06d3b6754a3c1d8eaca366cda223ff4ccac87db1279b87ac889c7878b4519f2", func := "foundling/foundlinglaw03.HeadUnpacks", spec := "headUnpacks", apart := false, narrowed := true }
def HeadUnpacksUptoSaid : Prop := headUnpacksUptoRow.holds Try.pinned (OpenSpec.upto headUnpacksSpec)

/-- 'foundlinglaw03.HeadPoints', WHERE WHAT IT READS IS OF BULK AT MOST 1048576: true; the input reads as it did. -/
def headPointsUptoRow : OpenClaim := { program := "ytmlfooofgedmaaa", sum := "c06d3b6754a3c1d8eaca366cda223ff4ccac87db1279b87ac889c7878b4519f2", func := "foundling/foundlinglaw03.HeadPoints", spec := "headPoints", apart := false, narrowed := true }
def HeadPointsUptoSaid : Prop := headPointsUptoRow.holds Try.pinned (OpenSpec.upto headPointsSpec)

/-- 'foundlinglaw03.HeadBits', WHERE WHAT IT READS IS OF BULK AT MOST 1048576: true; the input reads as it did. -/
def headBitsUptoRow : OpenClaim := { program := "ytmlfooofgedmaaa", sum := "c06d3b6754a3c1d8eaca366cda223ff4ccac87db1279b87ac889c7878b4519f2", func := "foundling/foundlinglaw03.HeadBits", spec := "headBits", apart := false, narrowed := true }
def HeadBitsUptoSaid : Prop := headBitsUptoRow.holds Try.pinned (OpenSpec.upto headBitsSpec)

/-- 'foundlinglaw04.HeapFills', WHERE WHAT IT READS IS OF BULK AT MOST 1048576: true; the input reads as it did. -/
def heapFillsUptoRow : OpenClaim := { program := "ytmlfooofgedmaaa", sum := "c06d3b6754a3c1d8eaca366cda223ff4ccac87db1279b87ac889c7878b4519f2", func := "foundling/foundlinglaw04.HeapFills", spec := "heapFills", apart := false, narrowed := true }
def HeapFillsUptoSaid : Prop := heapFillsUptoRow.holds Try.pinned (OpenSpec.upto heapFillsSpec)

/-- 'foundlinglaw04.HeapBytes', WHERE WHAT IT READS IS OF BULK AT MOST 1048576: true; the input reads as it did. -/
def heapBytesUptoRow : OpenClaim := { program := "ytmlfooofgedmaaa", sum := "c06d3b6754a3c1d8eaca366cda223ff4ccac87db1279b87ac889c7878b4519f2", func := "foundling/foundlinglaw04.HeapBytes", spec := "heapBytes", apart := false, narrowed := true }
def HeapBytesUptoSaid : Prop := heapBytesUptoRow.holds Try.pinned (OpenSpec.upto heapBytesSpec)

end Rows
end Go.Proofs.Ytmlfooofgedmaaa
