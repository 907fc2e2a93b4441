/-
  DERIVED. GIVEN WITH THE SEED: THE CARDS: each row of YtjffpclidcloeaaGreatDoorRows.lean that lists a variable, with what it lists TIED to the program's text (the seventh form; the later family's looks); each row that meets fmt, with fmt's text TOLD by the authors' own Lean function (tested against real Go, not proved from fmt's source: count such statements apart). THE CARD IS WHAT COUNTS. Prove the row's statement (the work); the ties are given (YtjffpclidcloeaaGreatDoorTie.lean); close each card by the builder's one call (the guide's Derived/Test/ToyasCard.lean, 'card_holds'). Laid BY PROGRAM, IN A SANDBOX (cutbox-door.mjs). By AI agents, Wed Nov 11 2026. No macro, syntax, notation, axiom, sorry.
-/
import Derived.Test.YtjffpclidcloeaaGreatDoorRows
import GoSem.ClaimSeven
namespace Go.Proofs.YtjffpclidcloeaaGreatDoor
namespace Rows

/-- THE TIED CARD OF 'laws.FnExactParseFast'. -/
def fnExactParseFastCard : Claim7 := { stood := { row := fnExactParseFastRow, standIns := [], harness := (true, "f249c5897e89212ebef2dbf55de8e7b1d38ba3f189119d254ee457f36bd98513"), looks := true }, kinds := [], alts := [], laidByText := true, laidKinds := [.data, .data, .data, .data, .pinned], laidTests := true, laidLooks := .later }
def FnExactParseFastCardSaid : Prop := Claim7.holds Tryz.pinned (.plain (OpenSpec.ofChange fnExactParseFastSpec)) fnExactParseFastCard

/-- THE SECOND FORM's CARD OF 'laws.FnExactParseFast'. -/
def fnExactParseFastUptoCard : Claim7 := { stood := { row := fnExactParseFastUptoRow, standIns := [], harness := (true, "f249c5897e89212ebef2dbf55de8e7b1d38ba3f189119d254ee457f36bd98513"), looks := true }, kinds := [], alts := [], laidByText := true, laidKinds := [.data, .data, .data, .data, .pinned], laidTests := true, laidLooks := .later }
def FnExactParseFastUptoCardSaid : Prop := Claim7.holds Tryz.pinned (.plain (OpenSpec.upto fnExactParseFastSpec)) fnExactParseFastUptoCard
end Rows
end Go.Proofs.YtjffpclidcloeaaGreatDoor
