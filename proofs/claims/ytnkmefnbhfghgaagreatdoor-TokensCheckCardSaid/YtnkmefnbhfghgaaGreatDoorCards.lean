/-
  DERIVED. GIVEN WITH THE SEED: THE CARDS: each row of YtnkmefnbhfghgaaGreatDoorRows.lean that lists a variable, with what it lists TIED to the program's text (the seventh form; the later family's looks); each row that meets fmt, with fmt's text TOLD by the authors' own Lean function (tested against real Go, not proved from fmt's source: count such statements apart). THE CARD IS WHAT COUNTS. Prove the row's statement (the work); the ties are given (YtnkmefnbhfghgaaGreatDoorTie.lean); close each card by the builder's one call (the guide's Derived/Test/ToyasCard.lean, 'card_holds'). Laid BY PROGRAM, IN A SANDBOX (cutbox-door.mjs). By AI agents, Wed Nov 11 2026. No macro, syntax, notation, axiom, sorry.
-/
import Derived.Test.YtnkmefnbhfghgaaGreatDoorRows
import GoSem.ClaimSeven
namespace Go.Proofs.YtnkmefnbhfghgaaGreatDoor
namespace Rows

/-- THE TIED CARD OF 'cinnabarlaw01.TokensRead'. -/
def tokensReadCard : Claim7 := { stood := { row := tokensReadRow, standIns := [], harness := (true, "1ec130504e6f6d074ba6e1bd3a11cd738f7bcd2ee81282e1292879b69d145ffb"), looks := true }, kinds := [], alts := [], laidByText := true, laidKinds := [.data, .data, .data, .data, .sentinel, .sentinel, .pinned], laidTests := true, laidLooks := .later }
def TokensReadCardSaid : Prop := Claim7.holds Tryz.pinned (.plain (OpenSpec.ofChange tokensReadSpec)) tokensReadCard

/-- THE TIED CARD OF 'cinnabarlaw01.TokensCheck'. -/
def tokensCheckCard : Claim7 := { stood := { row := tokensCheckRow, standIns := [], harness := (true, "1ec130504e6f6d074ba6e1bd3a11cd738f7bcd2ee81282e1292879b69d145ffb"), looks := true }, kinds := [], alts := [], laidByText := true, laidKinds := [.data, .data, .data, .data, .sentinel, .sentinel, .pinned], laidTests := true, laidLooks := .later }
def TokensCheckCardSaid : Prop := Claim7.holds Tryz.pinned (.plain (OpenSpec.ofChange tokensCheckSpec)) tokensCheckCard

/-- THE TIED CARD OF 'cinnabarlaw01.TokensBack'. -/
def tokensBackCard : Claim7 := { stood := { row := tokensBackRow, standIns := [], harness := (true, "1ec130504e6f6d074ba6e1bd3a11cd738f7bcd2ee81282e1292879b69d145ffb"), looks := true }, kinds := [], alts := [], laidByText := true, laidKinds := [.data, .data, .data, .data, .sentinel, .sentinel, .pinned], laidTests := true, laidLooks := .later }
def TokensBackCardSaid : Prop := Claim7.holds Tryz.pinned (.plain (OpenSpec.ofChange tokensBackSpec)) tokensBackCard

/-- THE SECOND FORM's CARD OF 'cinnabarlaw01.TokensRead'. -/
def tokensReadUptoCard : Claim7 := { stood := { row := tokensReadUptoRow, standIns := [], harness := (true, "1ec130504e6f6d074ba6e1bd3a11cd738f7bcd2ee81282e1292879b69d145ffb"), looks := true }, kinds := [], alts := [], laidByText := true, laidKinds := [.data, .data, .data, .data, .sentinel, .sentinel, .pinned], laidTests := true, laidLooks := .later }
def TokensReadUptoCardSaid : Prop := Claim7.holds Tryz.pinned (.plain (OpenSpec.upto tokensReadSpec)) tokensReadUptoCard

/-- THE SECOND FORM's CARD OF 'cinnabarlaw01.TokensCheck'. -/
def tokensCheckUptoCard : Claim7 := { stood := { row := tokensCheckUptoRow, standIns := [], harness := (true, "1ec130504e6f6d074ba6e1bd3a11cd738f7bcd2ee81282e1292879b69d145ffb"), looks := true }, kinds := [], alts := [], laidByText := true, laidKinds := [.data, .data, .data, .data, .sentinel, .sentinel, .pinned], laidTests := true, laidLooks := .later }
def TokensCheckUptoCardSaid : Prop := Claim7.holds Tryz.pinned (.plain (OpenSpec.upto tokensCheckSpec)) tokensCheckUptoCard

/-- THE SECOND FORM's CARD OF 'cinnabarlaw01.TokensBack'. -/
def tokensBackUptoCard : Claim7 := { stood := { row := tokensBackUptoRow, standIns := [], harness := (true, "1ec130504e6f6d074ba6e1bd3a11cd738f7bcd2ee81282e1292879b69d145ffb"), looks := true }, kinds := [], alts := [], laidByText := true, laidKinds := [.data, .data, .data, .data, .sentinel, .sentinel, .pinned], laidTests := true, laidLooks := .later }
def TokensBackUptoCardSaid : Prop := Claim7.holds Tryz.pinned (.plain (OpenSpec.upto tokensBackSpec)) tokensBackUptoCard
end Rows
end Go.Proofs.YtnkmefnbhfghgaaGreatDoor
