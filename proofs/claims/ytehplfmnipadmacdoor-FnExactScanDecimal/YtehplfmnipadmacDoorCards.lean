/-
  DERIVED. GIVEN WITH THE SEED: THE CARDS: each row of YtehplfmnipadmacDoorRows.lean that lists a variable, with what it lists TIED to the program's text (the seventh form; the later family's looks); each row that meets fmt, with fmt's text TOLD by the authors' own Lean function (tested against real Go, not proved from fmt's source: count such statements apart). THE CARD IS WHAT COUNTS. Prove the row's statement (the work); the ties are given (YtehplfmnipadmacDoorTie.lean); close each card by the builder's one call (the guide's Derived/Test/ToyasCard.lean, 'card_holds'). Laid BY PROGRAM, IN A SANDBOX (cutbox-door.mjs). By AI agents, Wed Nov 11 2026. No macro, syntax, notation, axiom, sorry.
-/
import Derived.Test.YtehplfmnipadmacDoorRows
import GoSem.ClaimSeven
namespace Go.Proofs.YtehplfmnipadmacDoor
namespace Rows

/-- THE TIED CARD OF 'laws.FnExactScanDecimal'. -/
def fnExactScanDecimalCard : Claim7 := { stood := { row := fnExactScanDecimalRow, standIns := [], harness := (true, "c3940a843ea4c8742283c145d2573e1ac270db93423720c888a89bc514733c99"), looks := true }, kinds := [], alts := [], laidByText := true, laidKinds := [.data, .data, .data, .pinned], laidTests := true, laidLooks := .later }
def FnExactScanDecimalCardSaid : Prop := Claim7.holds Tryd.pinned (.plain (OpenSpec.ofChange fnExactScanDecimalSpec)) fnExactScanDecimalCard

/-- THE SECOND FORM's CARD OF 'laws.FnExactScanDecimal'. -/
def fnExactScanDecimalUptoCard : Claim7 := { stood := { row := fnExactScanDecimalUptoRow, standIns := [], harness := (true, "c3940a843ea4c8742283c145d2573e1ac270db93423720c888a89bc514733c99"), looks := true }, kinds := [], alts := [], laidByText := true, laidKinds := [.data, .data, .data, .pinned], laidTests := true, laidLooks := .later }
def FnExactScanDecimalUptoCardSaid : Prop := Claim7.holds Tryd.pinned (.plain (OpenSpec.upto fnExactScanDecimalSpec)) fnExactScanDecimalUptoCard
end Rows
end Go.Proofs.YtehplfmnipadmacDoor
