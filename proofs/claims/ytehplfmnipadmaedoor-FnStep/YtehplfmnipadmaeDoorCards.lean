/-
  DERIVED. GIVEN WITH THE SEED: THE CARDS: each row of YtehplfmnipadmaeDoorRows.lean that lists a variable, with what it lists TIED to the program's text (the seventh form; the later family's looks); each row that meets fmt, with fmt's text TOLD by the authors' own Lean function (tested against real Go, not proved from fmt's source: count such statements apart). THE CARD IS WHAT COUNTS. Prove the row's statement (the work); the ties are given (YtehplfmnipadmaeDoorTie.lean); close each card by the builder's one call (the guide's Derived/Test/ToyasCard.lean, 'card_holds'). Laid BY PROGRAM, IN A SANDBOX (cutbox-door.mjs). By AI agents, Wed Nov 11 2026. No macro, syntax, notation, axiom, sorry.
-/
import Derived.Test.YtehplfmnipadmaeDoorRows
import GoSem.ClaimSeven
namespace Go.Proofs.YtehplfmnipadmaeDoor
namespace Rows

/-- THE TIED CARD OF 'laws.FnExactStep'. -/
def fnExactStepCard : Claim7 := { stood := { row := fnExactStepRow, standIns := [], harness := (true, "192adecb57d0cbb88d4be2885d0732e192ae85450cb1413579dd7d786c392e1c"), looks := false }, kinds := [], alts := [], laidByText := true, laidKinds := [.data], laidTests := true, laidLooks := .later }
def FnExactStepCardSaid : Prop := Claim7.holds Tryd.pinned (.plain (OpenSpec.ofChange fnExactStepSpec)) fnExactStepCard

/-- THE TIED CARD OF 'laws.FnExactBounds'. -/
def fnExactBoundsCard : Claim7 := { stood := { row := fnExactBoundsRow, standIns := [], harness := (true, "192adecb57d0cbb88d4be2885d0732e192ae85450cb1413579dd7d786c392e1c"), looks := false }, kinds := [], alts := [], laidByText := true, laidKinds := [.data], laidTests := true, laidLooks := .later }
def FnExactBoundsCardSaid : Prop := Claim7.holds Tryd.pinned (.plain (OpenSpec.ofChange fnExactBoundsSpec)) fnExactBoundsCard

/-- THE TIED CARD OF 'laws.FnExactRoundRatio'. -/
def fnExactRoundRatioCard : Claim7 := { stood := { row := fnExactRoundRatioRow, standIns := [], harness := (true, "192adecb57d0cbb88d4be2885d0732e192ae85450cb1413579dd7d786c392e1c"), looks := false }, kinds := [], alts := [], laidByText := true, laidKinds := [.data], laidTests := true, laidLooks := .later }
def FnExactRoundRatioCardSaid : Prop := Claim7.holds Tryd.pinned (.plain (OpenSpec.ofChange fnExactRoundRatioSpec)) fnExactRoundRatioCard

/-- THE TIED CARD OF 'laws.FnStep'. -/
def fnStepCard : Claim7 := { stood := { row := fnStepRow, standIns := [], harness := (true, "192adecb57d0cbb88d4be2885d0732e192ae85450cb1413579dd7d786c392e1c"), looks := false }, kinds := [], alts := [], laidByText := true, laidKinds := [.data], laidTests := true, laidLooks := .later }
def FnStepCardSaid : Prop := Claim7.holds Tryd.pinned (.plain (OpenSpec.ofChange fnStepSpec)) fnStepCard

/-- THE SECOND FORM's CARD OF 'laws.FnExactStep'. -/
def fnExactStepUptoCard : Claim7 := { stood := { row := fnExactStepUptoRow, standIns := [], harness := (true, "192adecb57d0cbb88d4be2885d0732e192ae85450cb1413579dd7d786c392e1c"), looks := false }, kinds := [], alts := [], laidByText := true, laidKinds := [.data], laidTests := true, laidLooks := .later }
def FnExactStepUptoCardSaid : Prop := Claim7.holds Tryd.pinned (.plain (OpenSpec.upto fnExactStepSpec)) fnExactStepUptoCard

/-- THE SECOND FORM's CARD OF 'laws.FnExactBounds'. -/
def fnExactBoundsUptoCard : Claim7 := { stood := { row := fnExactBoundsUptoRow, standIns := [], harness := (true, "192adecb57d0cbb88d4be2885d0732e192ae85450cb1413579dd7d786c392e1c"), looks := false }, kinds := [], alts := [], laidByText := true, laidKinds := [.data], laidTests := true, laidLooks := .later }
def FnExactBoundsUptoCardSaid : Prop := Claim7.holds Tryd.pinned (.plain (OpenSpec.upto fnExactBoundsSpec)) fnExactBoundsUptoCard

/-- THE SECOND FORM's CARD OF 'laws.FnExactRoundRatio'. -/
def fnExactRoundRatioUptoCard : Claim7 := { stood := { row := fnExactRoundRatioUptoRow, standIns := [], harness := (true, "192adecb57d0cbb88d4be2885d0732e192ae85450cb1413579dd7d786c392e1c"), looks := false }, kinds := [], alts := [], laidByText := true, laidKinds := [.data], laidTests := true, laidLooks := .later }
def FnExactRoundRatioUptoCardSaid : Prop := Claim7.holds Tryd.pinned (.plain (OpenSpec.upto fnExactRoundRatioSpec)) fnExactRoundRatioUptoCard

/-- THE SECOND FORM's CARD OF 'laws.FnStep'. -/
def fnStepUptoCard : Claim7 := { stood := { row := fnStepUptoRow, standIns := [], harness := (true, "192adecb57d0cbb88d4be2885d0732e192ae85450cb1413579dd7d786c392e1c"), looks := false }, kinds := [], alts := [], laidByText := true, laidKinds := [.data], laidTests := true, laidLooks := .later }
def FnStepUptoCardSaid : Prop := Claim7.holds Tryd.pinned (.plain (OpenSpec.upto fnStepSpec)) fnStepUptoCard
end Rows
end Go.Proofs.YtehplfmnipadmaeDoor
