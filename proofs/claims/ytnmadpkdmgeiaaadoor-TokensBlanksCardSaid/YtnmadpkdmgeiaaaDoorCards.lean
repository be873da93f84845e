/-
  DERIVED. GIVEN WITH THE SEED: THE CARDS: each row of YtnmadpkdmgeiaaaDoorRows.lean that lists a variable, with what it lists TIED to the program's text (the seventh form; the later family's looks); each row that meets fmt, with fmt's text TOLD by the authors' own Lean function (tested against real Go, not proved from fmt's source: count such statements apart). THE CARD IS WHAT COUNTS. Prove the row's statement (the work); the ties are given (YtnmadpkdmgeiaaaDoorTie.lean); close each card by the builder's one call (the guide's Derived/Test/ToyasCard.lean, 'card_holds'). Laid BY PROGRAM, IN A SANDBOX (cutbox-door.mjs). By AI agents, Wed Nov 11 2026. No macro, syntax, notation, axiom, sorry.
-/
import Derived.Test.YtnmadpkdmgeiaaaDoorRows
import GoSem.ClaimSeven
namespace Go.Proofs.YtnmadpkdmgeiaaaDoor
namespace Rows

/-- THE TIED CARD OF 'cinnabarlaw01.TokensBlanks'. -/
def tokensBlanksCard : Claim7 := { stood := { row := tokensBlanksRow, standIns := [], harness := (true, "5e34753e9b6c5970517666069b4a4659fa5dc132a7e9ef36840eb1cfb2d2aa92"), looks := true }, kinds := [], alts := [], laidByText := true, laidKinds := [.data, .data, .data, .data, .sentinel, .sentinel, .pinned], laidTests := true, laidLooks := .later }
def TokensBlanksCardSaid : Prop := Claim7.holds Tryd.pinned (.plain (OpenSpec.ofChange tokensBlanksSpec)) tokensBlanksCard

/-- THE SECOND FORM's CARD OF 'cinnabarlaw01.TokensBlanks'. -/
def tokensBlanksUptoCard : Claim7 := { stood := { row := tokensBlanksUptoRow, standIns := [], harness := (true, "5e34753e9b6c5970517666069b4a4659fa5dc132a7e9ef36840eb1cfb2d2aa92"), looks := true }, kinds := [], alts := [], laidByText := true, laidKinds := [.data, .data, .data, .data, .sentinel, .sentinel, .pinned], laidTests := true, laidLooks := .later }
def TokensBlanksUptoCardSaid : Prop := Claim7.holds Tryd.pinned (.plain (OpenSpec.upto tokensBlanksSpec)) tokensBlanksUptoCard
end Rows
end Go.Proofs.YtnmadpkdmgeiaaaDoor
