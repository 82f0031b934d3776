/-
  DERIVED. GIVEN WITH THE SEED: THE CARDS: each row of YtkmlclhkkklmeaaDoorRows.lean that lists a variable, with what it lists TIED to the program's text (the seventh form; the later family's looks); each row that meets fmt, with fmt's text TOLD by the authors' own Lean function (tested against real Go, not proved from fmt's source: count such statements apart). THE CARD IS WHAT COUNTS. Prove the row's statement (the work); the ties are given (YtkmlclhkkklmeaaDoorTie.lean); close each card by the builder's one call (the guide's Derived/Test/ToyasCard.lean, 'card_holds'). Laid BY PROGRAM, IN A SANDBOX (cutbox-door.mjs). By AI agents, Wed Nov 11 2026. No macro, syntax, notation, axiom, sorry.
-/
import Derived.Test.YtkmlclhkkklmeaaDoorRows
import GoSem.ClaimSeven
namespace Go.Proofs.YtkmlclhkkklmeaaDoor
namespace Rows

/-- THE TIED CARD OF 'foundlinglaw05.MarkCloses'. -/
def markClosesCard : Claim7 := { stood := { row := markClosesRow, standIns := [], harness := (true, "fc068d706924dd315cdab4faabddbddb131231a177b152e67080eac9754cc990"), looks := false }, kinds := [], alts := [], laidByText := true, laidKinds := [.data], laidTests := true, laidLooks := .later }
def MarkClosesCardSaid : Prop := Claim7.holds Tryd.pinned (.plain (OpenSpec.ofChange markClosesSpec)) markClosesCard

/-- THE TIED CARD OF 'foundlinglaw05.MarkGrows'. -/
def markGrowsCard : Claim7 := { stood := { row := markGrowsRow, standIns := [], harness := (true, "fc068d706924dd315cdab4faabddbddb131231a177b152e67080eac9754cc990"), looks := false }, kinds := [], alts := [], laidByText := true, laidKinds := [.data], laidTests := true, laidLooks := .later }
def MarkGrowsCardSaid : Prop := Claim7.holds Tryd.pinned (.plain (OpenSpec.ofChange markGrowsSpec)) markGrowsCard

/-- THE TIED CARD OF 'foundlinglaw06.GcSame'. -/
def gcSameCard : Claim7 := { stood := { row := gcSameRow, standIns := [], harness := (true, "fc068d706924dd315cdab4faabddbddb131231a177b152e67080eac9754cc990"), looks := false }, kinds := [], alts := [], laidByText := true, laidKinds := [.data], laidTests := true, laidLooks := .later }
def GcSameCardSaid : Prop := Claim7.holds Tryd.pinned (.plain (OpenSpec.ofChange gcSameSpec)) gcSameCard

/-- THE TIED CARD OF 'foundlinglaw06.GcHashes'. -/
def gcHashesCard : Claim7 := { stood := { row := gcHashesRow, standIns := [], harness := (true, "fc068d706924dd315cdab4faabddbddb131231a177b152e67080eac9754cc990"), looks := false }, kinds := [], alts := [], laidByText := true, laidKinds := [.data], laidTests := true, laidLooks := .later }
def GcHashesCardSaid : Prop := Claim7.holds Tryd.pinned (.plain (OpenSpec.ofChange gcHashesSpec)) gcHashesCard

/-- THE TIED CARD OF 'foundlingtop.FoundlingReached'. -/
def foundlingReachedCard : Claim7 := { stood := { row := foundlingReachedRow, standIns := [], harness := (true, "fc068d706924dd315cdab4faabddbddb131231a177b152e67080eac9754cc990"), looks := false }, kinds := [], alts := [], laidByText := true, laidKinds := [.data], laidTests := true, laidLooks := .later }
def FoundlingReachedCardSaid : Prop := Claim7.holds Tryd.pinned (.plain (OpenSpec.ofChange foundlingReachedSpec)) foundlingReachedCard

/-- THE SECOND FORM's CARD OF 'foundlinglaw05.MarkCloses'. -/
def markClosesUptoCard : Claim7 := { stood := { row := markClosesUptoRow, standIns := [], harness := (true, "fc068d706924dd315cdab4faabddbddb131231a177b152e67080eac9754cc990"), looks := false }, kinds := [], alts := [], laidByText := true, laidKinds := [.data], laidTests := true, laidLooks := .later }
def MarkClosesUptoCardSaid : Prop := Claim7.holds Tryd.pinned (.plain (OpenSpec.upto markClosesSpec)) markClosesUptoCard

/-- THE SECOND FORM's CARD OF 'foundlinglaw05.MarkGrows'. -/
def markGrowsUptoCard : Claim7 := { stood := { row := markGrowsUptoRow, standIns := [], harness := (true, "fc068d706924dd315cdab4faabddbddb131231a177b152e67080eac9754cc990"), looks := false }, kinds := [], alts := [], laidByText := true, laidKinds := [.data], laidTests := true, laidLooks := .later }
def MarkGrowsUptoCardSaid : Prop := Claim7.holds Tryd.pinned (.plain (OpenSpec.upto markGrowsSpec)) markGrowsUptoCard

/-- THE SECOND FORM's CARD OF 'foundlinglaw06.GcSame'. -/
def gcSameUptoCard : Claim7 := { stood := { row := gcSameUptoRow, standIns := [], harness := (true, "fc068d706924dd315cdab4faabddbddb131231a177b152e67080eac9754cc990"), looks := false }, kinds := [], alts := [], laidByText := true, laidKinds := [.data], laidTests := true, laidLooks := .later }
def GcSameUptoCardSaid : Prop := Claim7.holds Tryd.pinned (.plain (OpenSpec.upto gcSameSpec)) gcSameUptoCard

/-- THE SECOND FORM's CARD OF 'foundlinglaw06.GcHashes'. -/
def gcHashesUptoCard : Claim7 := { stood := { row := gcHashesUptoRow, standIns := [], harness := (true, "fc068d706924dd315cdab4faabddbddb131231a177b152e67080eac9754cc990"), looks := false }, kinds := [], alts := [], laidByText := true, laidKinds := [.data], laidTests := true, laidLooks := .later }
def GcHashesUptoCardSaid : Prop := Claim7.holds Tryd.pinned (.plain (OpenSpec.upto gcHashesSpec)) gcHashesUptoCard

/-- THE SECOND FORM's CARD OF 'foundlingtop.FoundlingReached'. -/
def foundlingReachedUptoCard : Claim7 := { stood := { row := foundlingReachedUptoRow, standIns := [], harness := (true, "fc068d706924dd315cdab4faabddbddb131231a177b152e67080eac9754cc990"), looks := false }, kinds := [], alts := [], laidByText := true, laidKinds := [.data], laidTests := true, laidLooks := .later }
def FoundlingReachedUptoCardSaid : Prop := Claim7.holds Tryd.pinned (.plain (OpenSpec.upto foundlingReachedSpec)) foundlingReachedUptoCard
end Rows
end Go.Proofs.YtkmlclhkkklmeaaDoor
