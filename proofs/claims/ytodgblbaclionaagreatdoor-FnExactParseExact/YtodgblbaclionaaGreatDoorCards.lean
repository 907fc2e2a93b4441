/-
  DERIVED. GIVEN WITH THE SEED: THE CARDS: each row of YtodgblbaclionaaGreatDoorRows.lean that lists a variable, with what it lists TIED to the program's text (the seventh form; the later family's looks); each row that meets fmt, with fmt's text TOLD by the authors' own Lean function (tested against real Go, not proved from fmt's source: count such statements apart). THE CARD IS WHAT COUNTS. Prove the row's statement (the work); the ties are given (YtodgblbaclionaaGreatDoorTie.lean); close each card by the builder's one call (the guide's Derived/Test/ToyasCard.lean, 'card_holds'). Laid BY PROGRAM, IN A SANDBOX (cutbox-door.mjs). By AI agents, Wed Nov 11 2026. No macro, syntax, notation, axiom, sorry.
-/
import Derived.Test.YtodgblbaclionaaGreatDoorRows
import GoSem.ClaimSeven
namespace Go.Proofs.YtodgblbaclionaaGreatDoor
namespace Rows

/-- THE TIED CARD OF 'laws.FnPack'. -/
def fnPackCard : Claim7 := { stood := { row := fnPackRow, standIns := [], harness := (true, "c734dc09a4a5b8152d2be438d5ff92657fe9dd14d65aeef8198a82263c768419"), looks := true }, kinds := [], alts := [], laidByText := true, laidKinds := [.data, .data, .data, .data, .pinned], laidTests := true, laidLooks := .later }
def FnPackCardSaid : Prop := Claim7.holds Tryz.pinned (.plain (OpenSpec.ofChange fnPackSpec)) fnPackCard

/-- THE TIED CARD OF 'laws.FnExactParseExact'. -/
def fnExactParseExactCard : Claim7 := { stood := { row := fnExactParseExactRow, standIns := [], harness := (true, "c734dc09a4a5b8152d2be438d5ff92657fe9dd14d65aeef8198a82263c768419"), looks := true }, kinds := [], alts := [], laidByText := true, laidKinds := [.data, .data, .data, .data, .pinned], laidTests := true, laidLooks := .later }
def FnExactParseExactCardSaid : Prop := Claim7.holds Tryz.pinned (.plain (OpenSpec.ofChange fnExactParseExactSpec)) fnExactParseExactCard

/-- THE SECOND FORM's CARD OF 'laws.FnPack'. -/
def fnPackUptoCard : Claim7 := { stood := { row := fnPackUptoRow, standIns := [], harness := (true, "c734dc09a4a5b8152d2be438d5ff92657fe9dd14d65aeef8198a82263c768419"), looks := true }, kinds := [], alts := [], laidByText := true, laidKinds := [.data, .data, .data, .data, .pinned], laidTests := true, laidLooks := .later }
def FnPackUptoCardSaid : Prop := Claim7.holds Tryz.pinned (.plain (OpenSpec.upto fnPackSpec)) fnPackUptoCard

/-- THE SECOND FORM's CARD OF 'laws.FnExactParseExact'. -/
def fnExactParseExactUptoCard : Claim7 := { stood := { row := fnExactParseExactUptoRow, standIns := [], harness := (true, "c734dc09a4a5b8152d2be438d5ff92657fe9dd14d65aeef8198a82263c768419"), looks := true }, kinds := [], alts := [], laidByText := true, laidKinds := [.data, .data, .data, .data, .pinned], laidTests := true, laidLooks := .later }
def FnExactParseExactUptoCardSaid : Prop := Claim7.holds Tryz.pinned (.plain (OpenSpec.upto fnExactParseExactSpec)) fnExactParseExactUptoCard
end Rows
end Go.Proofs.YtodgblbaclionaaGreatDoor
