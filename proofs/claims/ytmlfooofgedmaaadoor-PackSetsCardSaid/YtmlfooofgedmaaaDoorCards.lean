/-
  DERIVED. GIVEN WITH THE SEED: THE CARDS: each row of YtmlfooofgedmaaaDoorRows.lean that lists a variable, with what it lists TIED to the program's text (the seventh form; the later family's looks); each row that meets fmt, with fmt's text TOLD by the authors' own Lean function (tested against real Go, not proved from fmt's source: count such statements apart). THE CARD IS WHAT COUNTS. Prove the row's statement (the work); the ties are given (YtmlfooofgedmaaaDoorTie.lean); close each card by the builder's one call (the guide's Derived/Test/ToyasCard.lean, 'card_holds'). Laid BY PROGRAM, IN A SANDBOX (cutbox-door.mjs). By AI agents, Wed Nov 11 2026. No macro, syntax, notation, axiom, sorry.
-/
import Derived.Test.YtmlfooofgedmaaaDoorRows
import GoSem.ClaimSeven
namespace Go.Proofs.YtmlfooofgedmaaaDoor
namespace Rows

/-- THE TIED CARD OF 'foundlinglaw02.PackSums'. -/
def packSumsCard : Claim7 := { stood := { row := packSumsRow, standIns := [], harness := (true, "56bd85983ebe1ba0c5b95e8ddd8580c46a9816500e86880532a7fd18b80083f5"), looks := true }, kinds := [], alts := [], laidByText := true, laidKinds := [.data], laidTests := true, laidLooks := .later }
def PackSumsCardSaid : Prop := Claim7.holds Tryd.pinned (.plain (OpenSpec.ofChange packSumsSpec)) packSumsCard

/-- THE TIED CARD OF 'foundlinglaw02.PackBits'. -/
def packBitsCard : Claim7 := { stood := { row := packBitsRow, standIns := [], harness := (true, "56bd85983ebe1ba0c5b95e8ddd8580c46a9816500e86880532a7fd18b80083f5"), looks := true }, kinds := [], alts := [], laidByText := true, laidKinds := [.data], laidTests := true, laidLooks := .later }
def PackBitsCardSaid : Prop := Claim7.holds Tryd.pinned (.plain (OpenSpec.ofChange packBitsSpec)) packBitsCard

/-- THE TIED CARD OF 'foundlinglaw02.PackSets'. -/
def packSetsCard : Claim7 := { stood := { row := packSetsRow, standIns := [], harness := (true, "56bd85983ebe1ba0c5b95e8ddd8580c46a9816500e86880532a7fd18b80083f5"), looks := true }, kinds := [], alts := [], laidByText := true, laidKinds := [.data], laidTests := true, laidLooks := .later }
def PackSetsCardSaid : Prop := Claim7.holds Tryd.pinned (.plain (OpenSpec.ofChange packSetsSpec)) packSetsCard

/-- THE TIED CARD OF 'foundlingtop.FoundlingNumbers'. -/
def foundlingNumbersCard : Claim7 := { stood := { row := foundlingNumbersRow, standIns := [], harness := (true, "56bd85983ebe1ba0c5b95e8ddd8580c46a9816500e86880532a7fd18b80083f5"), looks := true }, kinds := [], alts := [], laidByText := true, laidKinds := [.data, .data, .data, .sentinel, .sentinel], laidTests := true, laidLooks := .later }
def FoundlingNumbersCardSaid : Prop := Claim7.holds Tryd.pinned (.plain (OpenSpec.ofChange foundlingNumbersSpec)) foundlingNumbersCard

/-- THE SECOND FORM's CARD OF 'foundlinglaw02.PackSums'. -/
def packSumsUptoCard : Claim7 := { stood := { row := packSumsUptoRow, standIns := [], harness := (true, "56bd85983ebe1ba0c5b95e8ddd8580c46a9816500e86880532a7fd18b80083f5"), looks := true }, kinds := [], alts := [], laidByText := true, laidKinds := [.data], laidTests := true, laidLooks := .later }
def PackSumsUptoCardSaid : Prop := Claim7.holds Tryd.pinned (.plain (OpenSpec.upto packSumsSpec)) packSumsUptoCard

/-- THE SECOND FORM's CARD OF 'foundlinglaw02.PackBits'. -/
def packBitsUptoCard : Claim7 := { stood := { row := packBitsUptoRow, standIns := [], harness := (true, "56bd85983ebe1ba0c5b95e8ddd8580c46a9816500e86880532a7fd18b80083f5"), looks := true }, kinds := [], alts := [], laidByText := true, laidKinds := [.data], laidTests := true, laidLooks := .later }
def PackBitsUptoCardSaid : Prop := Claim7.holds Tryd.pinned (.plain (OpenSpec.upto packBitsSpec)) packBitsUptoCard

/-- THE SECOND FORM's CARD OF 'foundlinglaw02.PackSets'. -/
def packSetsUptoCard : Claim7 := { stood := { row := packSetsUptoRow, standIns := [], harness := (true, "56bd85983ebe1ba0c5b95e8ddd8580c46a9816500e86880532a7fd18b80083f5"), looks := true }, kinds := [], alts := [], laidByText := true, laidKinds := [.data], laidTests := true, laidLooks := .later }
def PackSetsUptoCardSaid : Prop := Claim7.holds Tryd.pinned (.plain (OpenSpec.upto packSetsSpec)) packSetsUptoCard

/-- THE SECOND FORM's CARD OF 'foundlingtop.FoundlingNumbers'. -/
def foundlingNumbersUptoCard : Claim7 := { stood := { row := foundlingNumbersUptoRow, standIns := [], harness := (true, "56bd85983ebe1ba0c5b95e8ddd8580c46a9816500e86880532a7fd18b80083f5"), looks := true }, kinds := [], alts := [], laidByText := true, laidKinds := [.data, .data, .data, .sentinel, .sentinel], laidTests := true, laidLooks := .later }
def FoundlingNumbersUptoCardSaid : Prop := Claim7.holds Tryd.pinned (.plain (OpenSpec.upto foundlingNumbersSpec)) foundlingNumbersUptoCard
end Rows
end Go.Proofs.YtmlfooofgedmaaaDoor
