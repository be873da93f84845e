/-
  DERIVED. GIVEN WITH THE SEED: THE CARDS: each row of YtnkmefnbhfghgaaDoorRows.lean that lists a variable, with what it lists TIED to the program's text (the seventh form; the later family's looks); each row that meets fmt, with fmt's text TOLD by the authors' own Lean function (tested against real Go, not proved from fmt's source: count such statements apart). THE CARD IS WHAT COUNTS. Prove the row's statement (the work); the ties are given (YtnkmefnbhfghgaaDoorTie.lean); close each card by the builder's one call (the guide's Derived/Test/ToyasCard.lean, 'card_holds'). Laid BY PROGRAM, IN A SANDBOX (cutbox-door.mjs). By AI agents, Wed Nov 11 2026. No macro, syntax, notation, axiom, sorry.
-/
import Derived.Test.YtnkmefnbhfghgaaDoorRows
import GoSem.ClaimSeven
namespace Go.Proofs.YtnkmefnbhfghgaaDoor
namespace Rows

/-- THE TIED CARD OF 'cinnabarlaw01.TokensBlanks'. -/
def tokensBlanksCard : Claim7 := { stood := { row := tokensBlanksRow, standIns := [], harness := (true, "1b5fa4f320d8e2a25787d439e9651c8aee5870346a2e6ad0ecc2017a475437f7"), looks := true }, kinds := [], alts := [], laidByText := true, laidKinds := [.data, .data, .data, .data, .sentinel, .sentinel, .pinned], laidTests := true, laidLooks := .later }
def TokensBlanksCardSaid : Prop := Claim7.holds Tryd.pinned (.plain (OpenSpec.ofChange tokensBlanksSpec)) tokensBlanksCard

/-- THE TIED CARD OF 'cinnabarlaw01.TokensRight'. -/
def tokensRightCard : Claim7 := { stood := { row := tokensRightRow, standIns := [], harness := (true, "1b5fa4f320d8e2a25787d439e9651c8aee5870346a2e6ad0ecc2017a475437f7"), looks := true }, kinds := [], alts := [], laidByText := true, laidKinds := [.data, .data, .data, .data, .sentinel, .sentinel, .pinned], laidTests := true, laidLooks := .later }
def TokensRightCardSaid : Prop := Claim7.holds Tryd.pinned (.plain (OpenSpec.ofChange tokensRightSpec)) tokensRightCard

/-- THE SECOND FORM's CARD OF 'cinnabarlaw01.TokensBlanks'. -/
def tokensBlanksUptoCard : Claim7 := { stood := { row := tokensBlanksUptoRow, standIns := [], harness := (true, "1b5fa4f320d8e2a25787d439e9651c8aee5870346a2e6ad0ecc2017a475437f7"), looks := true }, kinds := [], alts := [], laidByText := true, laidKinds := [.data, .data, .data, .data, .sentinel, .sentinel, .pinned], laidTests := true, laidLooks := .later }
def TokensBlanksUptoCardSaid : Prop := Claim7.holds Tryd.pinned (.plain (OpenSpec.upto tokensBlanksSpec)) tokensBlanksUptoCard

/-- THE SECOND FORM's CARD OF 'cinnabarlaw01.TokensRight'. -/
def tokensRightUptoCard : Claim7 := { stood := { row := tokensRightUptoRow, standIns := [], harness := (true, "1b5fa4f320d8e2a25787d439e9651c8aee5870346a2e6ad0ecc2017a475437f7"), looks := true }, kinds := [], alts := [], laidByText := true, laidKinds := [.data, .data, .data, .data, .sentinel, .sentinel, .pinned], laidTests := true, laidLooks := .later }
def TokensRightUptoCardSaid : Prop := Claim7.holds Tryd.pinned (.plain (OpenSpec.upto tokensRightSpec)) tokensRightUptoCard
end Rows
end Go.Proofs.YtnkmefnbhfghgaaDoor
