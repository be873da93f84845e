/-
  DERIVED. GIVEN WITH THE SEED: THE CARDS: each row of YtaefonagbcnmdaaGreatDoorRows.lean that lists a variable, with what it lists TIED to the program's text (the seventh form; the later family's looks); each row that meets fmt, with fmt's text TOLD by the authors' own Lean function (tested against real Go, not proved from fmt's source: count such statements apart). THE CARD IS WHAT COUNTS. Prove the row's statement (the work); the ties are given (YtaefonagbcnmdaaGreatDoorTie.lean); close each card by the builder's one call (the guide's Derived/Test/ToyasCard.lean, 'card_holds'). Laid BY PROGRAM, IN A SANDBOX (cutbox-door.mjs). By AI agents, Wed Nov 11 2026. No macro, syntax, notation, axiom, sorry.
-/
import Derived.Test.YtaefonagbcnmdaaGreatDoorRows
import GoSem.ClaimSeven
namespace Go.Proofs.YtaefonagbcnmdaaGreatDoor
namespace Rows

/-- THE TIED CARD OF 'cinnabarlaw02.TermsText'. -/
def termsTextCard : Claim7 := { stood := { row := termsTextRow, standIns := [], harness := (true, "6eb5755645e40a224a9b4267b248e2edf56efc4902c1c6327255a3e24f1b87aa"), looks := true }, kinds := [], alts := [], laidByText := true, laidKinds := [.data, .data, .data, .data, .sentinel, .sentinel, .pinned], laidTests := true, laidLooks := .later }
def TermsTextCardSaid : Prop := Claim7.holds Tryz.pinned (.plain (OpenSpec.ofChange termsTextSpec)) termsTextCard

/-- THE TIED CARD OF 'cinnabarlaw02.TermsCheck'. -/
def termsCheckCard : Claim7 := { stood := { row := termsCheckRow, standIns := [], harness := (true, "6eb5755645e40a224a9b4267b248e2edf56efc4902c1c6327255a3e24f1b87aa"), looks := true }, kinds := [], alts := [], laidByText := true, laidKinds := [.data, .data, .data, .data, .sentinel, .sentinel, .pinned], laidTests := true, laidLooks := .later }
def TermsCheckCardSaid : Prop := Claim7.holds Tryz.pinned (.plain (OpenSpec.ofChange termsCheckSpec)) termsCheckCard

/-- THE TIED CARD OF 'cinnabarlaw02.TermsTables'. -/
def termsTablesCard : Claim7 := { stood := { row := termsTablesRow, standIns := [], harness := (true, "6eb5755645e40a224a9b4267b248e2edf56efc4902c1c6327255a3e24f1b87aa"), looks := true }, kinds := [], alts := [], laidByText := true, laidKinds := [.data, .data, .data, .data, .sentinel, .sentinel, .pinned], laidTests := true, laidLooks := .later }
def TermsTablesCardSaid : Prop := Claim7.holds Tryz.pinned (.plain (OpenSpec.ofChange termsTablesSpec)) termsTablesCard

/-- THE TIED CARD OF 'cinnabarlaw02.TermsSame'. -/
def termsSameCard : Claim7 := { stood := { row := termsSameRow, standIns := [], harness := (true, "6eb5755645e40a224a9b4267b248e2edf56efc4902c1c6327255a3e24f1b87aa"), looks := true }, kinds := [], alts := [], laidByText := true, laidKinds := [.data, .data, .data, .data, .sentinel, .sentinel, .pinned], laidTests := true, laidLooks := .later }
def TermsSameCardSaid : Prop := Claim7.holds Tryz.pinned (.plain (OpenSpec.ofChange termsSameSpec)) termsSameCard

/-- THE TIED CARD OF 'cinnabarlaw02.TermsBrackets'. -/
def termsBracketsCard : Claim7 := { stood := { row := termsBracketsRow, standIns := [], harness := (true, "6eb5755645e40a224a9b4267b248e2edf56efc4902c1c6327255a3e24f1b87aa"), looks := true }, kinds := [], alts := [], laidByText := true, laidKinds := [.data, .data, .data, .data, .sentinel, .sentinel, .pinned], laidTests := true, laidLooks := .later }
def TermsBracketsCardSaid : Prop := Claim7.holds Tryz.pinned (.plain (OpenSpec.ofChange termsBracketsSpec)) termsBracketsCard

/-- THE TIED CARD OF 'cinnabarlaw02.TermsRight'. -/
def termsRightCard : Claim7 := { stood := { row := termsRightRow, standIns := [], harness := (true, "6eb5755645e40a224a9b4267b248e2edf56efc4902c1c6327255a3e24f1b87aa"), looks := true }, kinds := [], alts := [], laidByText := true, laidKinds := [.data, .data, .data, .data, .sentinel, .sentinel, .pinned], laidTests := true, laidLooks := .later }
def TermsRightCardSaid : Prop := Claim7.holds Tryz.pinned (.plain (OpenSpec.ofChange termsRightSpec)) termsRightCard

/-- THE TIED CARD OF 'cinnabarlaw02.TermsBoth'. -/
def termsBothCard : Claim7 := { stood := { row := termsBothRow, standIns := [], harness := (true, "6eb5755645e40a224a9b4267b248e2edf56efc4902c1c6327255a3e24f1b87aa"), looks := true }, kinds := [], alts := [], laidByText := true, laidKinds := [.data, .data, .data, .data, .sentinel, .sentinel, .pinned], laidTests := true, laidLooks := .later }
def TermsBothCardSaid : Prop := Claim7.holds Tryz.pinned (.plain (OpenSpec.ofChange termsBothSpec)) termsBothCard

/-- THE TIED CARD OF 'cinnabarlaw02.TermsQuoted'. -/
def termsQuotedCard : Claim7 := { stood := { row := termsQuotedRow, standIns := [], harness := (true, "6eb5755645e40a224a9b4267b248e2edf56efc4902c1c6327255a3e24f1b87aa"), looks := true }, kinds := [], alts := [], laidByText := true, laidKinds := [.data, .data, .data, .data, .sentinel, .sentinel, .pinned], laidTests := true, laidLooks := .later }
def TermsQuotedCardSaid : Prop := Claim7.holds Tryz.pinned (.plain (OpenSpec.ofChange termsQuotedSpec)) termsQuotedCard

/-- THE SECOND FORM's CARD OF 'cinnabarlaw02.TermsText'. -/
def termsTextUptoCard : Claim7 := { stood := { row := termsTextUptoRow, standIns := [], harness := (true, "6eb5755645e40a224a9b4267b248e2edf56efc4902c1c6327255a3e24f1b87aa"), looks := true }, kinds := [], alts := [], laidByText := true, laidKinds := [.data, .data, .data, .data, .sentinel, .sentinel, .pinned], laidTests := true, laidLooks := .later }
def TermsTextUptoCardSaid : Prop := Claim7.holds Tryz.pinned (.plain (OpenSpec.upto termsTextSpec)) termsTextUptoCard

/-- THE SECOND FORM's CARD OF 'cinnabarlaw02.TermsCheck'. -/
def termsCheckUptoCard : Claim7 := { stood := { row := termsCheckUptoRow, standIns := [], harness := (true, "6eb5755645e40a224a9b4267b248e2edf56efc4902c1c6327255a3e24f1b87aa"), looks := true }, kinds := [], alts := [], laidByText := true, laidKinds := [.data, .data, .data, .data, .sentinel, .sentinel, .pinned], laidTests := true, laidLooks := .later }
def TermsCheckUptoCardSaid : Prop := Claim7.holds Tryz.pinned (.plain (OpenSpec.upto termsCheckSpec)) termsCheckUptoCard

/-- THE SECOND FORM's CARD OF 'cinnabarlaw02.TermsTables'. -/
def termsTablesUptoCard : Claim7 := { stood := { row := termsTablesUptoRow, standIns := [], harness := (true, "6eb5755645e40a224a9b4267b248e2edf56efc4902c1c6327255a3e24f1b87aa"), looks := true }, kinds := [], alts := [], laidByText := true, laidKinds := [.data, .data, .data, .data, .sentinel, .sentinel, .pinned], laidTests := true, laidLooks := .later }
def TermsTablesUptoCardSaid : Prop := Claim7.holds Tryz.pinned (.plain (OpenSpec.upto termsTablesSpec)) termsTablesUptoCard

/-- THE SECOND FORM's CARD OF 'cinnabarlaw02.TermsSame'. -/
def termsSameUptoCard : Claim7 := { stood := { row := termsSameUptoRow, standIns := [], harness := (true, "6eb5755645e40a224a9b4267b248e2edf56efc4902c1c6327255a3e24f1b87aa"), looks := true }, kinds := [], alts := [], laidByText := true, laidKinds := [.data, .data, .data, .data, .sentinel, .sentinel, .pinned], laidTests := true, laidLooks := .later }
def TermsSameUptoCardSaid : Prop := Claim7.holds Tryz.pinned (.plain (OpenSpec.upto termsSameSpec)) termsSameUptoCard

/-- THE SECOND FORM's CARD OF 'cinnabarlaw02.TermsBrackets'. -/
def termsBracketsUptoCard : Claim7 := { stood := { row := termsBracketsUptoRow, standIns := [], harness := (true, "6eb5755645e40a224a9b4267b248e2edf56efc4902c1c6327255a3e24f1b87aa"), looks := true }, kinds := [], alts := [], laidByText := true, laidKinds := [.data, .data, .data, .data, .sentinel, .sentinel, .pinned], laidTests := true, laidLooks := .later }
def TermsBracketsUptoCardSaid : Prop := Claim7.holds Tryz.pinned (.plain (OpenSpec.upto termsBracketsSpec)) termsBracketsUptoCard

/-- THE SECOND FORM's CARD OF 'cinnabarlaw02.TermsRight'. -/
def termsRightUptoCard : Claim7 := { stood := { row := termsRightUptoRow, standIns := [], harness := (true, "6eb5755645e40a224a9b4267b248e2edf56efc4902c1c6327255a3e24f1b87aa"), looks := true }, kinds := [], alts := [], laidByText := true, laidKinds := [.data, .data, .data, .data, .sentinel, .sentinel, .pinned], laidTests := true, laidLooks := .later }
def TermsRightUptoCardSaid : Prop := Claim7.holds Tryz.pinned (.plain (OpenSpec.upto termsRightSpec)) termsRightUptoCard

/-- THE SECOND FORM's CARD OF 'cinnabarlaw02.TermsBoth'. -/
def termsBothUptoCard : Claim7 := { stood := { row := termsBothUptoRow, standIns := [], harness := (true, "6eb5755645e40a224a9b4267b248e2edf56efc4902c1c6327255a3e24f1b87aa"), looks := true }, kinds := [], alts := [], laidByText := true, laidKinds := [.data, .data, .data, .data, .sentinel, .sentinel, .pinned], laidTests := true, laidLooks := .later }
def TermsBothUptoCardSaid : Prop := Claim7.holds Tryz.pinned (.plain (OpenSpec.upto termsBothSpec)) termsBothUptoCard

/-- THE SECOND FORM's CARD OF 'cinnabarlaw02.TermsQuoted'. -/
def termsQuotedUptoCard : Claim7 := { stood := { row := termsQuotedUptoRow, standIns := [], harness := (true, "6eb5755645e40a224a9b4267b248e2edf56efc4902c1c6327255a3e24f1b87aa"), looks := true }, kinds := [], alts := [], laidByText := true, laidKinds := [.data, .data, .data, .data, .sentinel, .sentinel, .pinned], laidTests := true, laidLooks := .later }
def TermsQuotedUptoCardSaid : Prop := Claim7.holds Tryz.pinned (.plain (OpenSpec.upto termsQuotedSpec)) termsQuotedUptoCard
end Rows
end Go.Proofs.YtaefonagbcnmdaaGreatDoor
