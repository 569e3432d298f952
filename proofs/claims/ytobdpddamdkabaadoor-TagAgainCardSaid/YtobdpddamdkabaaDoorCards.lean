/-
  DERIVED. GIVEN WITH THE SEED: THE CARDS: each row of YtobdpddamdkabaaDoorRows.lean that lists a variable, with what it lists TIED to the program's text (the seventh form; the later family's looks); each row that meets fmt, with fmt's text TOLD by the authors' own Lean function (tested against real Go, not proved from fmt's source: count such statements apart). THE CARD IS WHAT COUNTS. Prove the row's statement (the work); the ties are given (YtobdpddamdkabaaDoorTie.lean); close each card by the builder's one call (the guide's Derived/Test/ToyasCard.lean, 'card_holds'). Laid BY PROGRAM, IN A SANDBOX (cutbox-door.mjs). By AI agents, Wed Nov 11 2026. No macro, syntax, notation, axiom, sorry.
-/
import Derived.Test.YtobdpddamdkabaaDoorRows
import GoSem.ClaimSeven
namespace Go.Proofs.YtobdpddamdkabaaDoor
namespace Rows

/-- THE TIED CARD OF 'whilomlaw16.TagActs'. -/
def tagActsCard : Claim7 := { stood := { row := tagActsRow, standIns := [], harness := (true, "25f18954e9fe2a8cdba5adc82448cfe0b35ef9622c293c6c069cfe7f9563c3eb"), looks := false }, kinds := [], alts := [], laidByText := true, laidKinds := [.data], laidTests := true, laidLooks := .later }
def TagActsCardSaid : Prop := Claim7.holds Tryd.pinned (.plain (OpenSpec.ofChange tagActsSpec)) tagActsCard

/-- THE TIED CARD OF 'whilomlaw16.TagOnce'. -/
def tagOnceCard : Claim7 := { stood := { row := tagOnceRow, standIns := [], harness := (true, "25f18954e9fe2a8cdba5adc82448cfe0b35ef9622c293c6c069cfe7f9563c3eb"), looks := false }, kinds := [], alts := [], laidByText := true, laidKinds := [.data], laidTests := true, laidLooks := .later }
def TagOnceCardSaid : Prop := Claim7.holds Tryd.pinned (.plain (OpenSpec.ofChange tagOnceSpec)) tagOnceCard

/-- THE TIED CARD OF 'whilomlaw16.TagMakes'. -/
def tagMakesCard : Claim7 := { stood := { row := tagMakesRow, standIns := [], harness := (true, "25f18954e9fe2a8cdba5adc82448cfe0b35ef9622c293c6c069cfe7f9563c3eb"), looks := false }, kinds := [], alts := [], laidByText := true, laidKinds := [.data], laidTests := true, laidLooks := .later }
def TagMakesCardSaid : Prop := Claim7.holds Tryd.pinned (.plain (OpenSpec.ofChange tagMakesSpec)) tagMakesCard

/-- THE TIED CARD OF 'whilomlaw16.TagAgain'. -/
def tagAgainCard : Claim7 := { stood := { row := tagAgainRow, standIns := [], harness := (true, "25f18954e9fe2a8cdba5adc82448cfe0b35ef9622c293c6c069cfe7f9563c3eb"), looks := false }, kinds := [], alts := [], laidByText := true, laidKinds := [.data], laidTests := true, laidLooks := .later }
def TagAgainCardSaid : Prop := Claim7.holds Tryd.pinned (.plain (OpenSpec.ofChange tagAgainSpec)) tagAgainCard

/-- THE TIED CARD OF 'whilomlaw16.TagTimes'. -/
def tagTimesCard : Claim7 := { stood := { row := tagTimesRow, standIns := [], harness := (true, "25f18954e9fe2a8cdba5adc82448cfe0b35ef9622c293c6c069cfe7f9563c3eb"), looks := false }, kinds := [], alts := [], laidByText := true, laidKinds := [.data], laidTests := true, laidLooks := .later }
def TagTimesCardSaid : Prop := Claim7.holds Tryd.pinned (.plain (OpenSpec.ofChange tagTimesSpec)) tagTimesCard

/-- THE SECOND FORM's CARD OF 'whilomlaw16.TagActs'. -/
def tagActsUptoCard : Claim7 := { stood := { row := tagActsUptoRow, standIns := [], harness := (true, "25f18954e9fe2a8cdba5adc82448cfe0b35ef9622c293c6c069cfe7f9563c3eb"), looks := false }, kinds := [], alts := [], laidByText := true, laidKinds := [.data], laidTests := true, laidLooks := .later }
def TagActsUptoCardSaid : Prop := Claim7.holds Tryd.pinned (.plain (OpenSpec.upto tagActsSpec)) tagActsUptoCard

/-- THE SECOND FORM's CARD OF 'whilomlaw16.TagOnce'. -/
def tagOnceUptoCard : Claim7 := { stood := { row := tagOnceUptoRow, standIns := [], harness := (true, "25f18954e9fe2a8cdba5adc82448cfe0b35ef9622c293c6c069cfe7f9563c3eb"), looks := false }, kinds := [], alts := [], laidByText := true, laidKinds := [.data], laidTests := true, laidLooks := .later }
def TagOnceUptoCardSaid : Prop := Claim7.holds Tryd.pinned (.plain (OpenSpec.upto tagOnceSpec)) tagOnceUptoCard

/-- THE SECOND FORM's CARD OF 'whilomlaw16.TagMakes'. -/
def tagMakesUptoCard : Claim7 := { stood := { row := tagMakesUptoRow, standIns := [], harness := (true, "25f18954e9fe2a8cdba5adc82448cfe0b35ef9622c293c6c069cfe7f9563c3eb"), looks := false }, kinds := [], alts := [], laidByText := true, laidKinds := [.data], laidTests := true, laidLooks := .later }
def TagMakesUptoCardSaid : Prop := Claim7.holds Tryd.pinned (.plain (OpenSpec.upto tagMakesSpec)) tagMakesUptoCard

/-- THE SECOND FORM's CARD OF 'whilomlaw16.TagAgain'. -/
def tagAgainUptoCard : Claim7 := { stood := { row := tagAgainUptoRow, standIns := [], harness := (true, "25f18954e9fe2a8cdba5adc82448cfe0b35ef9622c293c6c069cfe7f9563c3eb"), looks := false }, kinds := [], alts := [], laidByText := true, laidKinds := [.data], laidTests := true, laidLooks := .later }
def TagAgainUptoCardSaid : Prop := Claim7.holds Tryd.pinned (.plain (OpenSpec.upto tagAgainSpec)) tagAgainUptoCard

/-- THE SECOND FORM's CARD OF 'whilomlaw16.TagTimes'. -/
def tagTimesUptoCard : Claim7 := { stood := { row := tagTimesUptoRow, standIns := [], harness := (true, "25f18954e9fe2a8cdba5adc82448cfe0b35ef9622c293c6c069cfe7f9563c3eb"), looks := false }, kinds := [], alts := [], laidByText := true, laidKinds := [.data], laidTests := true, laidLooks := .later }
def TagTimesUptoCardSaid : Prop := Claim7.holds Tryd.pinned (.plain (OpenSpec.upto tagTimesSpec)) tagTimesUptoCard
end Rows
end Go.Proofs.YtobdpddamdkabaaDoor
