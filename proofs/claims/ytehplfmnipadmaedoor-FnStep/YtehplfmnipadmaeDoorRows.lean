/-
  NARROWER THAN 'FOR EVERY INPUT', by the rows' own cells (each row's printed sentence says how): FnExactStep: laid · FnExactBounds: laid · FnExactRoundRatio: laid · FnStep: laid.
  DERIVED. THE GIVEN ROWS OF THIS SEAT. 4 by the template 'for every input the law returns true; each argument reads behind the call as it read before'; 0 by the template 'total and deterministic' (their statements: YtehplfmnipadmaeDoorTotals.lean).
  GIVEN WITH THE SEED: the statements are not yours to turn. If you find one false, say at which input.
  Laid BY PROGRAM, IN A SANDBOX (cutbox-rows.mjs): the forced cells as the released guide's own fill.sh prints them over the translation 427bde846301085c… (all of the seat's roots in one cut). By AI agents, Wed Nov 11 2026. No macro, syntax, notation, axiom, sorry.
-/
import Derived.Test.YtehplfmnipadmaeDoorChecked
import GoSem.Claim
import GoSem.ClaimJoined
import GoSem.ClaimMapViews
import Derived.JoinedTies
import Derived.KernelRfl
namespace Go.Proofs.YtehplfmnipadmaeDoor
/- THE CELL 'sum', in the pinned program and in every row, IS THE sha256 OF THE DUMP (.gsa) THAT YtehplfmnipadmaeDoorProg.lean LOADS. Nothing in Lean hashes anything: it is a label: what it is worth is what the hold of that sum in a sandbox is worth. -/
noncomputable def Tryd.pinned : Pinned := { name := "ytehplfmnipadmaedoor", sum := "427bde846301085cd465b5fe138fdb16a0e5bcc2cc3c217b8031039116402401", checked := Tryd.checked }
namespace Rows
def none {H : Type} : Left H := { results := [], args := [] }

/- WHAT THE LISTED PACKAGE-LEVEL VARIABLES READ AS WHEN THE CALL BEGINS. Each datum BY PROGRAM (the guide's laid-datum.mjs) off the statement by which the dump's own 'gosem.cut.vars' lays the variable. In a bare row this is a premise. The card (YtehplfmnipadmaeDoorCards.lean) ties it to the program's text. -/
def laid_loop_example_s01493_impl_formats {H : Type} : DataW H := .agg [.agg [.lit (.int .i64 24), .lit (.int .i64 (-126)), .lit (.int .i64 127), .lit (.int .i64 32), .lit (.int .i64 8), .lit (.bool false)], .agg [.lit (.int .i64 53), .lit (.int .i64 (-1022)), .lit (.int .i64 1023), .lit (.int .i64 64), .lit (.int .i64 11), .lit (.bool false)], .agg [.lit (.int .i64 64), .lit (.int .i64 (-16382)), .lit (.int .i64 16383), .lit (.int .i64 80), .lit (.int .i64 15), .lit (.bool true)], .agg [.lit (.int .i64 113), .lit (.int .i64 (-16382)), .lit (.int .i64 16383), .lit (.int .i64 128), .lit (.int .i64 15), .lit (.bool false)]]

/-- 'laws.FnExactStep': WHATEVER THE INPUT: true; the input reads as it did. -/
def fnExactStepSpec : ChangeSpec := { name := "fnExactStep", vars := ["loop.example/s01493/impl.formats"], fn := fun _ => fun
  | [d1, d2, d3, g1] => { results := [.lit (.bool true)], args := [d1, d2, d3], vars := [g1] }
  | _ => none }
def fnExactStepRow : OpenClaim := { program := "ytehplfmnipadmaedoor", sum := "427bde846301085cd465b5fe138fdb16a0e5bcc2cc3c217b8031039116402401", func := "loop.example/s01493/laws.FnExactStep", spec := "fnExactStep", named := ["loop.example/s01493/impl.formats"], apart := false, laid := [("loop.example/s01493/impl.formats", laid_loop_example_s01493_impl_formats)] }
def FnExactStepSaid : Prop := fnExactStepRow.holds Tryd.pinned (OpenSpec.ofChange fnExactStepSpec)

/-- ITS FALSE NEIGHBOUR: 'it returns false'. Refute it at one input. -/
def fnExactStepWrong : ChangeSpec := { name := "fnExactStep", vars := ["loop.example/s01493/impl.formats"], fn := fun _ => fun
  | [d1, d2, d3, g1] => { results := [.lit (.bool false)], args := [d1, d2, d3], vars := [g1] }
  | _ => none }
def FnExactStepWrongFalsely : Prop := fnExactStepRow.holds Tryd.pinned (OpenSpec.ofChange fnExactStepWrong)

/-- 'laws.FnExactBounds': WHATEVER THE INPUT: true; the input reads as it did. -/
def fnExactBoundsSpec : ChangeSpec := { name := "fnExactBounds", vars := ["loop.example/s01493/impl.formats"], fn := fun _ => fun
  | [d1, d2, g1] => { results := [.lit (.bool true)], args := [d1, d2], vars := [g1] }
  | _ => none }
def fnExactBoundsRow : OpenClaim := { program := "ytehplfmnipadmaedoor", sum := "427bde846301085cd465b5fe138fdb16a0e5bcc2cc3c217b8031039116402401", func := "loop.example/s01493/laws.FnExactBounds", spec := "fnExactBounds", named := ["loop.example/s01493/impl.formats"], apart := false, laid := [("loop.example/s01493/impl.formats", laid_loop_example_s01493_impl_formats)] }
def FnExactBoundsSaid : Prop := fnExactBoundsRow.holds Tryd.pinned (OpenSpec.ofChange fnExactBoundsSpec)

/-- ITS FALSE NEIGHBOUR: 'it returns false'. Refute it at one input. -/
def fnExactBoundsWrong : ChangeSpec := { name := "fnExactBounds", vars := ["loop.example/s01493/impl.formats"], fn := fun _ => fun
  | [d1, d2, g1] => { results := [.lit (.bool false)], args := [d1, d2], vars := [g1] }
  | _ => none }
def FnExactBoundsWrongFalsely : Prop := fnExactBoundsRow.holds Tryd.pinned (OpenSpec.ofChange fnExactBoundsWrong)

/-- 'laws.FnExactRoundRatio': WHATEVER THE INPUT: true; the input reads as it did. -/
def fnExactRoundRatioSpec : ChangeSpec := { name := "fnExactRoundRatio", vars := ["loop.example/s01493/impl.formats"], fn := fun _ => fun
  | [d1, d2, d3, d4, g1] => { results := [.lit (.bool true)], args := [d1, d2, d3, d4], vars := [g1] }
  | _ => none }
def fnExactRoundRatioRow : OpenClaim := { program := "ytehplfmnipadmaedoor", sum := "427bde846301085cd465b5fe138fdb16a0e5bcc2cc3c217b8031039116402401", func := "loop.example/s01493/laws.FnExactRoundRatio", spec := "fnExactRoundRatio", named := ["loop.example/s01493/impl.formats", "math/bits.divideError", "math/bits.overflowError"], apart := false, laid := [("loop.example/s01493/impl.formats", laid_loop_example_s01493_impl_formats)] }
def FnExactRoundRatioSaid : Prop := fnExactRoundRatioRow.holds Tryd.pinned (OpenSpec.ofChange fnExactRoundRatioSpec)

/-- ITS FALSE NEIGHBOUR: 'it returns false'. Refute it at one input. -/
def fnExactRoundRatioWrong : ChangeSpec := { name := "fnExactRoundRatio", vars := ["loop.example/s01493/impl.formats"], fn := fun _ => fun
  | [d1, d2, d3, d4, g1] => { results := [.lit (.bool false)], args := [d1, d2, d3, d4], vars := [g1] }
  | _ => none }
def FnExactRoundRatioWrongFalsely : Prop := fnExactRoundRatioRow.holds Tryd.pinned (OpenSpec.ofChange fnExactRoundRatioWrong)

/-- 'laws.FnStep': WHATEVER THE INPUT: true; the input reads as it did. -/
def fnStepSpec : ChangeSpec := { name := "fnStep", vars := ["loop.example/s01493/impl.formats"], fn := fun _ => fun
  | [d, g1] => { results := [.lit (.bool true)], args := [d], vars := [g1] }
  | _ => none }
def fnStepRow : OpenClaim := { program := "ytehplfmnipadmaedoor", sum := "427bde846301085cd465b5fe138fdb16a0e5bcc2cc3c217b8031039116402401", func := "loop.example/s01493/laws.FnStep", spec := "fnStep", named := ["loop.example/s01493/impl.formats"], apart := false, laid := [("loop.example/s01493/impl.formats", laid_loop_example_s01493_impl_formats)] }
def FnStepSaid : Prop := fnStepRow.holds Tryd.pinned (OpenSpec.ofChange fnStepSpec)

/-- ITS FALSE NEIGHBOUR: 'it returns false'. Refute it at one input. -/
def fnStepWrong : ChangeSpec := { name := "fnStep", vars := ["loop.example/s01493/impl.formats"], fn := fun _ => fun
  | [d, g1] => { results := [.lit (.bool false)], args := [d], vars := [g1] }
  | _ => none }
def FnStepWrongFalsely : Prop := fnStepRow.holds Tryd.pinned (OpenSpec.ofChange fnStepWrong)

/- THE SECOND FORM. 'bulk': how many values and letters a reading holds, each counted each time it is reached (what is shared counts as often as it is met; a slice's spare places count too). A statement '..UptoSaid' is the law's where the arguments, and the package variables that the reading takes, are together of bulk at most 1048576: NARROWER than '..Said'. Prove '..Said' where nothing that the law and all that it calls make is longer than what came in: it says more and counts as full. Else prove '..UptoSaid'. A law counts once. -/
mutual
def uptoBulk {H : Type} : DataW H → Nat
  | .lit (.string bytes) => bytes.length + 1
  | .lit _ => 1
  | .nil => 1
  | .ptr d => uptoBulk d + 1
  | .slice elems spare => uptoBulkAll elems + uptoBulkAll spare + 1
  | .agg parts => uptoBulkAll parts + 1
  | .iface _ d => uptoBulk d + 1
  | .map entries => uptoBulkEntries entries + 1
  | .held _ => 1
def uptoBulkAll {H : Type} : List (DataW H) → Nat
  | [] => 0
  | d :: r => uptoBulk d + uptoBulkAll r
def uptoBulkEntries {H : Type} : List (Lit × DataW H) → Nat
  | [] => 0
  | x :: r => uptoBulkEntry x + uptoBulkEntries r
def uptoBulkEntry {H : Type} : Lit × DataW H → Nat
  | (.string bytes, d) => bytes.length + uptoBulk d + 1
  | (_, d) => uptoBulk d + 1
 end
def uptoSmall : (H : Type) → List (DataW H) → Bool := fun _ ds => decide (uptoBulkAll ds ≤ 1048576)
def OpenSpec.upto (s : _root_.Go.ChangeSpec) : _root_.Go.OpenSpec := { _root_.Go.OpenSpec.ofChange s with cond := some uptoSmall }

/-- 'laws.FnExactStep', WHERE WHAT IT READS IS OF BULK AT MOST 1048576: true; the input reads as it did. -/
def fnExactStepUptoRow : OpenClaim := { program := "ytehplfmnipadmaedoor", sum := "427bde846301085cd465b5fe138fdb16a0e5bcc2cc3c217b8031039116402401", func := "loop.example/s01493/laws.FnExactStep", spec := "fnExactStep", named := ["loop.example/s01493/impl.formats"], apart := false, laid := [("loop.example/s01493/impl.formats", laid_loop_example_s01493_impl_formats)], narrowed := true }
def FnExactStepUptoSaid : Prop := fnExactStepUptoRow.holds Tryd.pinned (OpenSpec.upto fnExactStepSpec)

/-- 'laws.FnExactBounds', WHERE WHAT IT READS IS OF BULK AT MOST 1048576: true; the input reads as it did. -/
def fnExactBoundsUptoRow : OpenClaim := { program := "ytehplfmnipadmaedoor", sum := "427bde846301085cd465b5fe138fdb16a0e5bcc2cc3c217b8031039116402401", func := "loop.example/s01493/laws.FnExactBounds", spec := "fnExactBounds", named := ["loop.example/s01493/impl.formats"], apart := false, laid := [("loop.example/s01493/impl.formats", laid_loop_example_s01493_impl_formats)], narrowed := true }
def FnExactBoundsUptoSaid : Prop := fnExactBoundsUptoRow.holds Tryd.pinned (OpenSpec.upto fnExactBoundsSpec)

/-- 'laws.FnExactRoundRatio', WHERE WHAT IT READS IS OF BULK AT MOST 1048576: true; the input reads as it did. -/
def fnExactRoundRatioUptoRow : OpenClaim := { program := "ytehplfmnipadmaedoor", sum := "427bde846301085cd465b5fe138fdb16a0e5bcc2cc3c217b8031039116402401", func := "loop.example/s01493/laws.FnExactRoundRatio", spec := "fnExactRoundRatio", named := ["loop.example/s01493/impl.formats", "math/bits.divideError", "math/bits.overflowError"], apart := false, laid := [("loop.example/s01493/impl.formats", laid_loop_example_s01493_impl_formats)], narrowed := true }
def FnExactRoundRatioUptoSaid : Prop := fnExactRoundRatioUptoRow.holds Tryd.pinned (OpenSpec.upto fnExactRoundRatioSpec)

/-- 'laws.FnStep', WHERE WHAT IT READS IS OF BULK AT MOST 1048576: true; the input reads as it did. -/
def fnStepUptoRow : OpenClaim := { program := "ytehplfmnipadmaedoor", sum := "427bde846301085cd465b5fe138fdb16a0e5bcc2cc3c217b8031039116402401", func := "loop.example/s01493/laws.FnStep", spec := "fnStep", named := ["loop.example/s01493/impl.formats"], apart := false, laid := [("loop.example/s01493/impl.formats", laid_loop_example_s01493_impl_formats)], narrowed := true }
def FnStepUptoSaid : Prop := fnStepUptoRow.holds Tryd.pinned (OpenSpec.upto fnStepSpec)

end Rows
end Go.Proofs.YtehplfmnipadmaeDoor
