/-
  DERIVED. GIVEN WITH THE SEED: THE CARDS: each row of YtocblnbnifljmaaDoorRows.lean that lists a variable, with what it lists TIED to the program's text (the seventh form; the later family's looks); each row that meets fmt, with fmt's text TOLD by the authors' own Lean function (tested against real Go, not proved from fmt's source: count such statements apart). THE CARD IS WHAT COUNTS. Prove the row's statement (the work); the ties are given (YtocblnbnifljmaaDoorTie.lean); close each card by the builder's one call (the guide's Derived/Test/ToyasCard.lean, 'card_holds'). Laid BY PROGRAM, IN A SANDBOX (cutbox-door.mjs). By AI agents, Wed Nov 11 2026. No macro, syntax, notation, axiom, sorry.
-/
import Derived.Test.YtocblnbnifljmaaDoorRows
import GoSem.ClaimSeven
namespace Go.Proofs.YtocblnbnifljmaaDoor
namespace Rows

/-- THE TIED CARD OF 'whilomlaw02.ItemOrders'. -/
def itemOrdersCard : Claim7 := { stood := { row := itemOrdersRow, standIns := [], harness := (true, "1522d7df024a7efc37f46a2e59746b3d4b383c7257115343593aeb634ea756c8"), looks := true }, kinds := [], alts := [], laidByText := true, laidKinds := [.data, .data, .data, .sentinel, .sentinel], laidTests := true, laidLooks := .later }
def ItemOrdersCardSaid : Prop := Claim7.holds Tryd.pinned (.plain (OpenSpec.ofChange itemOrdersSpec)) itemOrdersCard

/-- THE TIED CARD OF 'whilomlaw02.ItemSorts'. -/
def itemSortsCard : Claim7 := { stood := { row := itemSortsRow, standIns := [], harness := (true, "1522d7df024a7efc37f46a2e59746b3d4b383c7257115343593aeb634ea756c8"), looks := true }, kinds := [], alts := [], laidByText := true, laidKinds := [.data, .data, .data, .sentinel, .sentinel], laidTests := true, laidLooks := .later }
def ItemSortsCardSaid : Prop := Claim7.holds Tryd.pinned (.plain (OpenSpec.ofChange itemSortsSpec)) itemSortsCard

/-- THE TIED CARD OF 'whilomlaw02.ItemTexts'. -/
def itemTextsCard : Claim7 := { stood := { row := itemTextsRow, standIns := [], harness := (true, "1522d7df024a7efc37f46a2e59746b3d4b383c7257115343593aeb634ea756c8"), looks := true }, kinds := [], alts := [], laidByText := true, laidKinds := [.data, .data, .data, .sentinel, .sentinel], laidTests := true, laidLooks := .later }
def ItemTextsCardSaid : Prop := Claim7.holds Tryd.pinned (.plain (OpenSpec.ofChange itemTextsSpec)) itemTextsCard

/-- THE TIED CARD OF 'whilomlaw02.ItemReads'. -/
def itemReadsCard : Claim7 := { stood := { row := itemReadsRow, standIns := [], harness := (true, "1522d7df024a7efc37f46a2e59746b3d4b383c7257115343593aeb634ea756c8"), looks := true }, kinds := [], alts := [], laidByText := true, laidKinds := [.data, .data, .data, .sentinel, .sentinel], laidTests := true, laidLooks := .later }
def ItemReadsCardSaid : Prop := Claim7.holds Tryd.pinned (.plain (OpenSpec.ofChange itemReadsSpec)) itemReadsCard

/-- THE TIED CARD OF 'whilomlaw02.ItemApart'. -/
def itemApartCard : Claim7 := { stood := { row := itemApartRow, standIns := [], harness := (true, "1522d7df024a7efc37f46a2e59746b3d4b383c7257115343593aeb634ea756c8"), looks := true }, kinds := [], alts := [], laidByText := true, laidKinds := [.data, .data, .data, .sentinel, .sentinel], laidTests := true, laidLooks := .later }
def ItemApartCardSaid : Prop := Claim7.holds Tryd.pinned (.plain (OpenSpec.ofChange itemApartSpec)) itemApartCard

/-- THE SECOND FORM's CARD OF 'whilomlaw02.ItemOrders'. -/
def itemOrdersUptoCard : Claim7 := { stood := { row := itemOrdersUptoRow, standIns := [], harness := (true, "1522d7df024a7efc37f46a2e59746b3d4b383c7257115343593aeb634ea756c8"), looks := true }, kinds := [], alts := [], laidByText := true, laidKinds := [.data, .data, .data, .sentinel, .sentinel], laidTests := true, laidLooks := .later }
def ItemOrdersUptoCardSaid : Prop := Claim7.holds Tryd.pinned (.plain (OpenSpec.upto itemOrdersSpec)) itemOrdersUptoCard

/-- THE SECOND FORM's CARD OF 'whilomlaw02.ItemSorts'. -/
def itemSortsUptoCard : Claim7 := { stood := { row := itemSortsUptoRow, standIns := [], harness := (true, "1522d7df024a7efc37f46a2e59746b3d4b383c7257115343593aeb634ea756c8"), looks := true }, kinds := [], alts := [], laidByText := true, laidKinds := [.data, .data, .data, .sentinel, .sentinel], laidTests := true, laidLooks := .later }
def ItemSortsUptoCardSaid : Prop := Claim7.holds Tryd.pinned (.plain (OpenSpec.upto itemSortsSpec)) itemSortsUptoCard

/-- THE SECOND FORM's CARD OF 'whilomlaw02.ItemTexts'. -/
def itemTextsUptoCard : Claim7 := { stood := { row := itemTextsUptoRow, standIns := [], harness := (true, "1522d7df024a7efc37f46a2e59746b3d4b383c7257115343593aeb634ea756c8"), looks := true }, kinds := [], alts := [], laidByText := true, laidKinds := [.data, .data, .data, .sentinel, .sentinel], laidTests := true, laidLooks := .later }
def ItemTextsUptoCardSaid : Prop := Claim7.holds Tryd.pinned (.plain (OpenSpec.upto itemTextsSpec)) itemTextsUptoCard

/-- THE SECOND FORM's CARD OF 'whilomlaw02.ItemReads'. -/
def itemReadsUptoCard : Claim7 := { stood := { row := itemReadsUptoRow, standIns := [], harness := (true, "1522d7df024a7efc37f46a2e59746b3d4b383c7257115343593aeb634ea756c8"), looks := true }, kinds := [], alts := [], laidByText := true, laidKinds := [.data, .data, .data, .sentinel, .sentinel], laidTests := true, laidLooks := .later }
def ItemReadsUptoCardSaid : Prop := Claim7.holds Tryd.pinned (.plain (OpenSpec.upto itemReadsSpec)) itemReadsUptoCard

/-- THE SECOND FORM's CARD OF 'whilomlaw02.ItemApart'. -/
def itemApartUptoCard : Claim7 := { stood := { row := itemApartUptoRow, standIns := [], harness := (true, "1522d7df024a7efc37f46a2e59746b3d4b383c7257115343593aeb634ea756c8"), looks := true }, kinds := [], alts := [], laidByText := true, laidKinds := [.data, .data, .data, .sentinel, .sentinel], laidTests := true, laidLooks := .later }
def ItemApartUptoCardSaid : Prop := Claim7.holds Tryd.pinned (.plain (OpenSpec.upto itemApartSpec)) itemApartUptoCard
end Rows
end Go.Proofs.YtocblnbnifljmaaDoor
