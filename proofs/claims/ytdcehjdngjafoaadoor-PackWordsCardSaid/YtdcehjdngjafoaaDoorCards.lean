/-
  DERIVED. GIVEN WITH THE SEED: THE CARDS: each row of YtdcehjdngjafoaaDoorRows.lean that lists a variable, with what it lists TIED to the program's text (the seventh form; the later family's looks); each row that meets fmt, with fmt's text TOLD by the authors' own Lean function (tested against real Go, not proved from fmt's source: count such statements apart). THE CARD IS WHAT COUNTS. Prove the row's statement (the work); the ties are given (YtdcehjdngjafoaaDoorTie.lean); close each card by the builder's one call (the guide's Derived/Test/ToyasCard.lean, 'card_holds'). Laid BY PROGRAM, IN A SANDBOX (cutbox-door.mjs). By AI agents, Wed Nov 11 2026. No macro, syntax, notation, axiom, sorry.
-/
import Derived.Test.YtdcehjdngjafoaaDoorRows
import GoSem.ClaimSeven
namespace Go.Proofs.YtdcehjdngjafoaaDoor
namespace Rows

/-- THE TIED CARD OF 'foundlinglaw01.SmallWords'. -/
def smallWordsCard : Claim7 := { stood := { row := smallWordsRow, standIns := [], harness := (true, "06536ef880dbff30119eaf2f92a32a64d9bb6e17168962f7068de73947eca596"), looks := true }, kinds := [], alts := [], laidByText := true, laidKinds := [.data, .data, .data], laidTests := true, laidLooks := .later }
def SmallWordsCardSaid : Prop := Claim7.holds Tryd.pinned (.plain (OpenSpec.ofChange smallWordsSpec)) smallWordsCard

/-- THE TIED CARD OF 'foundlinglaw01.SmallReckons'. -/
def smallReckonsCard : Claim7 := { stood := { row := smallReckonsRow, standIns := [], harness := (true, "06536ef880dbff30119eaf2f92a32a64d9bb6e17168962f7068de73947eca596"), looks := true }, kinds := [], alts := [], laidByText := true, laidKinds := [.data, .data, .data], laidTests := true, laidLooks := .later }
def SmallReckonsCardSaid : Prop := Claim7.holds Tryd.pinned (.plain (OpenSpec.ofChange smallReckonsSpec)) smallReckonsCard

/-- THE TIED CARD OF 'foundlinglaw01.SmallParts'. -/
def smallPartsCard : Claim7 := { stood := { row := smallPartsRow, standIns := [], harness := (true, "06536ef880dbff30119eaf2f92a32a64d9bb6e17168962f7068de73947eca596"), looks := true }, kinds := [], alts := [], laidByText := true, laidKinds := [.data, .data, .data], laidTests := true, laidLooks := .later }
def SmallPartsCardSaid : Prop := Claim7.holds Tryd.pinned (.plain (OpenSpec.ofChange smallPartsSpec)) smallPartsCard

/-- THE TIED CARD OF 'foundlinglaw01.SmallTexts'. -/
def smallTextsCard : Claim7 := { stood := { row := smallTextsRow, standIns := [], harness := (true, "06536ef880dbff30119eaf2f92a32a64d9bb6e17168962f7068de73947eca596"), looks := true }, kinds := [], alts := [], laidByText := true, laidKinds := [.data, .data, .data, .sentinel, .sentinel], laidTests := true, laidLooks := .later }
def SmallTextsCardSaid : Prop := Claim7.holds Tryd.pinned (.plain (OpenSpec.ofChange smallTextsSpec)) smallTextsCard

/-- THE TIED CARD OF 'foundlinglaw01.SmallOrders'. -/
def smallOrdersCard : Claim7 := { stood := { row := smallOrdersRow, standIns := [], harness := (true, "06536ef880dbff30119eaf2f92a32a64d9bb6e17168962f7068de73947eca596"), looks := true }, kinds := [], alts := [], laidByText := true, laidKinds := [.data, .data, .data], laidTests := true, laidLooks := .later }
def SmallOrdersCardSaid : Prop := Claim7.holds Tryd.pinned (.plain (OpenSpec.ofChange smallOrdersSpec)) smallOrdersCard

/-- THE TIED CARD OF 'foundlinglaw01.SmallBits'. -/
def smallBitsCard : Claim7 := { stood := { row := smallBitsRow, standIns := [], harness := (true, "06536ef880dbff30119eaf2f92a32a64d9bb6e17168962f7068de73947eca596"), looks := true }, kinds := [], alts := [], laidByText := true, laidKinds := [.data, .data, .data], laidTests := true, laidLooks := .later }
def SmallBitsCardSaid : Prop := Claim7.holds Tryd.pinned (.plain (OpenSpec.ofChange smallBitsSpec)) smallBitsCard

/-- THE TIED CARD OF 'foundlinglaw01.SmallShifts'. -/
def smallShiftsCard : Claim7 := { stood := { row := smallShiftsRow, standIns := [], harness := (true, "06536ef880dbff30119eaf2f92a32a64d9bb6e17168962f7068de73947eca596"), looks := true }, kinds := [], alts := [], laidByText := true, laidKinds := [.data, .data, .data], laidTests := true, laidLooks := .later }
def SmallShiftsCardSaid : Prop := Claim7.holds Tryd.pinned (.plain (OpenSpec.ofChange smallShiftsSpec)) smallShiftsCard

/-- THE TIED CARD OF 'foundlinglaw02.PackNumbers'. -/
def packNumbersCard : Claim7 := { stood := { row := packNumbersRow, standIns := [], harness := (true, "06536ef880dbff30119eaf2f92a32a64d9bb6e17168962f7068de73947eca596"), looks := true }, kinds := [], alts := [], laidByText := true, laidKinds := [.data], laidTests := true, laidLooks := .later }
def PackNumbersCardSaid : Prop := Claim7.holds Tryd.pinned (.plain (OpenSpec.ofChange packNumbersSpec)) packNumbersCard

/-- THE TIED CARD OF 'foundlinglaw02.PackWords'. -/
def packWordsCard : Claim7 := { stood := { row := packWordsRow, standIns := [], harness := (true, "06536ef880dbff30119eaf2f92a32a64d9bb6e17168962f7068de73947eca596"), looks := true }, kinds := [], alts := [], laidByText := true, laidKinds := [.data], laidTests := true, laidLooks := .later }
def PackWordsCardSaid : Prop := Claim7.holds Tryd.pinned (.plain (OpenSpec.ofChange packWordsSpec)) packWordsCard

/-- THE TIED CARD OF 'foundlinglaw02.PackSums'. -/
def packSumsCard : Claim7 := { stood := { row := packSumsRow, standIns := [], harness := (true, "06536ef880dbff30119eaf2f92a32a64d9bb6e17168962f7068de73947eca596"), looks := true }, kinds := [], alts := [], laidByText := true, laidKinds := [.data], laidTests := true, laidLooks := .later }
def PackSumsCardSaid : Prop := Claim7.holds Tryd.pinned (.plain (OpenSpec.ofChange packSumsSpec)) packSumsCard

/-- THE TIED CARD OF 'foundlinglaw02.PackBits'. -/
def packBitsCard : Claim7 := { stood := { row := packBitsRow, standIns := [], harness := (true, "06536ef880dbff30119eaf2f92a32a64d9bb6e17168962f7068de73947eca596"), looks := true }, kinds := [], alts := [], laidByText := true, laidKinds := [.data], laidTests := true, laidLooks := .later }
def PackBitsCardSaid : Prop := Claim7.holds Tryd.pinned (.plain (OpenSpec.ofChange packBitsSpec)) packBitsCard

/-- THE TIED CARD OF 'foundlinglaw02.PackSets'. -/
def packSetsCard : Claim7 := { stood := { row := packSetsRow, standIns := [], harness := (true, "06536ef880dbff30119eaf2f92a32a64d9bb6e17168962f7068de73947eca596"), looks := true }, kinds := [], alts := [], laidByText := true, laidKinds := [.data], laidTests := true, laidLooks := .later }
def PackSetsCardSaid : Prop := Claim7.holds Tryd.pinned (.plain (OpenSpec.ofChange packSetsSpec)) packSetsCard

/-- THE TIED CARD OF 'foundlingtop.FoundlingNumbers'. -/
def foundlingNumbersCard : Claim7 := { stood := { row := foundlingNumbersRow, standIns := [], harness := (true, "06536ef880dbff30119eaf2f92a32a64d9bb6e17168962f7068de73947eca596"), looks := true }, kinds := [], alts := [], laidByText := true, laidKinds := [.data, .data, .data, .sentinel, .sentinel], laidTests := true, laidLooks := .later }
def FoundlingNumbersCardSaid : Prop := Claim7.holds Tryd.pinned (.plain (OpenSpec.ofChange foundlingNumbersSpec)) foundlingNumbersCard

/-- THE SECOND FORM's CARD OF 'foundlinglaw01.SmallWords'. -/
def smallWordsUptoCard : Claim7 := { stood := { row := smallWordsUptoRow, standIns := [], harness := (true, "06536ef880dbff30119eaf2f92a32a64d9bb6e17168962f7068de73947eca596"), looks := true }, kinds := [], alts := [], laidByText := true, laidKinds := [.data, .data, .data], laidTests := true, laidLooks := .later }
def SmallWordsUptoCardSaid : Prop := Claim7.holds Tryd.pinned (.plain (OpenSpec.upto smallWordsSpec)) smallWordsUptoCard

/-- THE SECOND FORM's CARD OF 'foundlinglaw01.SmallReckons'. -/
def smallReckonsUptoCard : Claim7 := { stood := { row := smallReckonsUptoRow, standIns := [], harness := (true, "06536ef880dbff30119eaf2f92a32a64d9bb6e17168962f7068de73947eca596"), looks := true }, kinds := [], alts := [], laidByText := true, laidKinds := [.data, .data, .data], laidTests := true, laidLooks := .later }
def SmallReckonsUptoCardSaid : Prop := Claim7.holds Tryd.pinned (.plain (OpenSpec.upto smallReckonsSpec)) smallReckonsUptoCard

/-- THE SECOND FORM's CARD OF 'foundlinglaw01.SmallParts'. -/
def smallPartsUptoCard : Claim7 := { stood := { row := smallPartsUptoRow, standIns := [], harness := (true, "06536ef880dbff30119eaf2f92a32a64d9bb6e17168962f7068de73947eca596"), looks := true }, kinds := [], alts := [], laidByText := true, laidKinds := [.data, .data, .data], laidTests := true, laidLooks := .later }
def SmallPartsUptoCardSaid : Prop := Claim7.holds Tryd.pinned (.plain (OpenSpec.upto smallPartsSpec)) smallPartsUptoCard

/-- THE SECOND FORM's CARD OF 'foundlinglaw01.SmallTexts'. -/
def smallTextsUptoCard : Claim7 := { stood := { row := smallTextsUptoRow, standIns := [], harness := (true, "06536ef880dbff30119eaf2f92a32a64d9bb6e17168962f7068de73947eca596"), looks := true }, kinds := [], alts := [], laidByText := true, laidKinds := [.data, .data, .data, .sentinel, .sentinel], laidTests := true, laidLooks := .later }
def SmallTextsUptoCardSaid : Prop := Claim7.holds Tryd.pinned (.plain (OpenSpec.upto smallTextsSpec)) smallTextsUptoCard

/-- THE SECOND FORM's CARD OF 'foundlinglaw01.SmallOrders'. -/
def smallOrdersUptoCard : Claim7 := { stood := { row := smallOrdersUptoRow, standIns := [], harness := (true, "06536ef880dbff30119eaf2f92a32a64d9bb6e17168962f7068de73947eca596"), looks := true }, kinds := [], alts := [], laidByText := true, laidKinds := [.data, .data, .data], laidTests := true, laidLooks := .later }
def SmallOrdersUptoCardSaid : Prop := Claim7.holds Tryd.pinned (.plain (OpenSpec.upto smallOrdersSpec)) smallOrdersUptoCard

/-- THE SECOND FORM's CARD OF 'foundlinglaw01.SmallBits'. -/
def smallBitsUptoCard : Claim7 := { stood := { row := smallBitsUptoRow, standIns := [], harness := (true, "06536ef880dbff30119eaf2f92a32a64d9bb6e17168962f7068de73947eca596"), looks := true }, kinds := [], alts := [], laidByText := true, laidKinds := [.data, .data, .data], laidTests := true, laidLooks := .later }
def SmallBitsUptoCardSaid : Prop := Claim7.holds Tryd.pinned (.plain (OpenSpec.upto smallBitsSpec)) smallBitsUptoCard

/-- THE SECOND FORM's CARD OF 'foundlinglaw01.SmallShifts'. -/
def smallShiftsUptoCard : Claim7 := { stood := { row := smallShiftsUptoRow, standIns := [], harness := (true, "06536ef880dbff30119eaf2f92a32a64d9bb6e17168962f7068de73947eca596"), looks := true }, kinds := [], alts := [], laidByText := true, laidKinds := [.data, .data, .data], laidTests := true, laidLooks := .later }
def SmallShiftsUptoCardSaid : Prop := Claim7.holds Tryd.pinned (.plain (OpenSpec.upto smallShiftsSpec)) smallShiftsUptoCard

/-- THE SECOND FORM's CARD OF 'foundlinglaw02.PackNumbers'. -/
def packNumbersUptoCard : Claim7 := { stood := { row := packNumbersUptoRow, standIns := [], harness := (true, "06536ef880dbff30119eaf2f92a32a64d9bb6e17168962f7068de73947eca596"), looks := true }, kinds := [], alts := [], laidByText := true, laidKinds := [.data], laidTests := true, laidLooks := .later }
def PackNumbersUptoCardSaid : Prop := Claim7.holds Tryd.pinned (.plain (OpenSpec.upto packNumbersSpec)) packNumbersUptoCard

/-- THE SECOND FORM's CARD OF 'foundlinglaw02.PackWords'. -/
def packWordsUptoCard : Claim7 := { stood := { row := packWordsUptoRow, standIns := [], harness := (true, "06536ef880dbff30119eaf2f92a32a64d9bb6e17168962f7068de73947eca596"), looks := true }, kinds := [], alts := [], laidByText := true, laidKinds := [.data], laidTests := true, laidLooks := .later }
def PackWordsUptoCardSaid : Prop := Claim7.holds Tryd.pinned (.plain (OpenSpec.upto packWordsSpec)) packWordsUptoCard

/-- THE SECOND FORM's CARD OF 'foundlinglaw02.PackSums'. -/
def packSumsUptoCard : Claim7 := { stood := { row := packSumsUptoRow, standIns := [], harness := (true, "06536ef880dbff30119eaf2f92a32a64d9bb6e17168962f7068de73947eca596"), looks := true }, kinds := [], alts := [], laidByText := true, laidKinds := [.data], laidTests := true, laidLooks := .later }
def PackSumsUptoCardSaid : Prop := Claim7.holds Tryd.pinned (.plain (OpenSpec.upto packSumsSpec)) packSumsUptoCard

/-- THE SECOND FORM's CARD OF 'foundlinglaw02.PackBits'. -/
def packBitsUptoCard : Claim7 := { stood := { row := packBitsUptoRow, standIns := [], harness := (true, "06536ef880dbff30119eaf2f92a32a64d9bb6e17168962f7068de73947eca596"), looks := true }, kinds := [], alts := [], laidByText := true, laidKinds := [.data], laidTests := true, laidLooks := .later }
def PackBitsUptoCardSaid : Prop := Claim7.holds Tryd.pinned (.plain (OpenSpec.upto packBitsSpec)) packBitsUptoCard

/-- THE SECOND FORM's CARD OF 'foundlinglaw02.PackSets'. -/
def packSetsUptoCard : Claim7 := { stood := { row := packSetsUptoRow, standIns := [], harness := (true, "06536ef880dbff30119eaf2f92a32a64d9bb6e17168962f7068de73947eca596"), looks := true }, kinds := [], alts := [], laidByText := true, laidKinds := [.data], laidTests := true, laidLooks := .later }
def PackSetsUptoCardSaid : Prop := Claim7.holds Tryd.pinned (.plain (OpenSpec.upto packSetsSpec)) packSetsUptoCard

/-- THE SECOND FORM's CARD OF 'foundlingtop.FoundlingNumbers'. -/
def foundlingNumbersUptoCard : Claim7 := { stood := { row := foundlingNumbersUptoRow, standIns := [], harness := (true, "06536ef880dbff30119eaf2f92a32a64d9bb6e17168962f7068de73947eca596"), looks := true }, kinds := [], alts := [], laidByText := true, laidKinds := [.data, .data, .data, .sentinel, .sentinel], laidTests := true, laidLooks := .later }
def FoundlingNumbersUptoCardSaid : Prop := Claim7.holds Tryd.pinned (.plain (OpenSpec.upto foundlingNumbersSpec)) foundlingNumbersUptoCard
end Rows
end Go.Proofs.YtdcehjdngjafoaaDoor
