/-
  DERIVED. GIVEN WITH THE SEED: THE CARDS: each row of YtmglhkdgfcbonaaGreatDoorRows.lean that lists a variable, with what it lists TIED to the program's text (the seventh form; the later family's looks); each row that meets fmt, with fmt's text TOLD by the authors' own Lean function (tested against real Go, not proved from fmt's source: count such statements apart). THE CARD IS WHAT COUNTS. Prove the row's statement (the work); the ties are given (YtmglhkdgfcbonaaGreatDoorTie.lean); close each card by the builder's one call (the guide's Derived/Test/ToyasCard.lean, 'card_holds'). Laid BY PROGRAM, IN A SANDBOX (cutbox-door.mjs). By AI agents, Wed Nov 11 2026. No macro, syntax, notation, axiom, sorry.
-/
import Derived.Test.YtmglhkdgfcbonaaGreatDoorRows
import GoSem.ClaimSeven
namespace Go.Proofs.YtmglhkdgfcbonaaGreatDoor
namespace Rows

/-- THE TIED CARD OF 'laws.FnExactShortest'. -/
def fnExactShortestCard : Claim7 := { stood := { row := fnExactShortestRow, standIns := [], harness := (true, "9837af91094fffd8117b013e6f409315e675f3bc67cdeed064a00e876dedca71"), looks := false }, kinds := [], alts := [], laidByText := true, laidKinds := [.data, .data, .pinned], laidTests := true, laidLooks := .later }
def FnExactShortestCardSaid : Prop := Claim7.holds Tryz.pinned (.plain (OpenSpec.ofChange fnExactShortestSpec)) fnExactShortestCard

/-- THE TIED CARD OF 'laws.FnExactPrintBits'. -/
def fnExactPrintBitsCard : Claim7 := { stood := { row := fnExactPrintBitsRow, standIns := [], harness := (true, "9837af91094fffd8117b013e6f409315e675f3bc67cdeed064a00e876dedca71"), looks := false }, kinds := [], alts := [], laidByText := true, laidKinds := [.data, .data, .data, .data, .data, .pinned], laidTests := true, laidLooks := .later }
def FnExactPrintBitsCardSaid : Prop := Claim7.holds Tryz.pinned (.plain (OpenSpec.ofChange fnExactPrintBitsSpec)) fnExactPrintBitsCard

/-- THE TIED CARD OF 'laws.FnShortest'. -/
def fnShortestCard : Claim7 := { stood := { row := fnShortestRow, standIns := [], harness := (true, "9837af91094fffd8117b013e6f409315e675f3bc67cdeed064a00e876dedca71"), looks := false }, kinds := [], alts := [], laidByText := true, laidKinds := [.data, .data, .pinned], laidTests := true, laidLooks := .later }
def FnShortestCardSaid : Prop := Claim7.holds Tryz.pinned (.plain (OpenSpec.ofChange fnShortestSpec)) fnShortestCard

/-- THE SECOND FORM's CARD OF 'laws.FnExactShortest'. -/
def fnExactShortestUptoCard : Claim7 := { stood := { row := fnExactShortestUptoRow, standIns := [], harness := (true, "9837af91094fffd8117b013e6f409315e675f3bc67cdeed064a00e876dedca71"), looks := false }, kinds := [], alts := [], laidByText := true, laidKinds := [.data, .data, .pinned], laidTests := true, laidLooks := .later }
def FnExactShortestUptoCardSaid : Prop := Claim7.holds Tryz.pinned (.plain (OpenSpec.upto fnExactShortestSpec)) fnExactShortestUptoCard

/-- THE SECOND FORM's CARD OF 'laws.FnExactPrintBits'. -/
def fnExactPrintBitsUptoCard : Claim7 := { stood := { row := fnExactPrintBitsUptoRow, standIns := [], harness := (true, "9837af91094fffd8117b013e6f409315e675f3bc67cdeed064a00e876dedca71"), looks := false }, kinds := [], alts := [], laidByText := true, laidKinds := [.data, .data, .data, .data, .data, .pinned], laidTests := true, laidLooks := .later }
def FnExactPrintBitsUptoCardSaid : Prop := Claim7.holds Tryz.pinned (.plain (OpenSpec.upto fnExactPrintBitsSpec)) fnExactPrintBitsUptoCard

/-- THE SECOND FORM's CARD OF 'laws.FnShortest'. -/
def fnShortestUptoCard : Claim7 := { stood := { row := fnShortestUptoRow, standIns := [], harness := (true, "9837af91094fffd8117b013e6f409315e675f3bc67cdeed064a00e876dedca71"), looks := false }, kinds := [], alts := [], laidByText := true, laidKinds := [.data, .data, .pinned], laidTests := true, laidLooks := .later }
def FnShortestUptoCardSaid : Prop := Claim7.holds Tryz.pinned (.plain (OpenSpec.upto fnShortestSpec)) fnShortestUptoCard
end Rows
end Go.Proofs.YtmglhkdgfcbonaaGreatDoor
