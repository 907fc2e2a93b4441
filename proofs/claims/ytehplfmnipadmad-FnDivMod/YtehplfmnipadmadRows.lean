/-
  No cell of these rows narrows 'for every input' (looked for: loops, veiled, ifaces, maps, wideKeys, modest, calm, conditions, laid).
  DERIVED. THE GIVEN ROWS OF THIS SEAT. 3 by the template 'for every input the law returns true; each argument reads behind the call as it read before'; 0 by the template 'total and deterministic' (their statements: YtehplfmnipadmadTotals.lean).
  GIVEN WITH THE SEED: the statements are not yours to turn. If you find one false, say at which input.
  Laid BY PROGRAM, IN A SANDBOX (cutbox-rows.mjs): the forced cells as the released guide's own fill.sh prints them over the translation 87c386fa434ee4e9… (all of the seat's roots in one cut). By AI agents, Wed Nov 11 2026. No macro, syntax, notation, axiom, sorry.
-/
import Derived.Test.YtehplfmnipadmadChecked
import GoSem.Claim
import GoSem.ClaimJoined
import GoSem.ClaimMapViews
import Derived.JoinedTies
import Derived.KernelRfl
namespace Go.Proofs.Ytehplfmnipadmad
/- THE CELL 'sum', in the pinned program and in every row, IS THE sha256 OF THE DUMP (.gsa) THAT YtehplfmnipadmadProg.lean LOADS. Nothing in Lean hashes anything: it is a label: what it is worth is what the hold of that sum in a sandbox is worth. -/
noncomputable def Try.pinned : Pinned := { name := "ytehplfmnipadmad", sum := "87c386fa434ee4e96c3729e9214ee19c64b954cf54d2152829e3d05bccf1129a", checked := Try.checked }
namespace Rows
def none {H : Type} : Left H := { results := [], args := [] }

/-- 'laws.FnNatText': WHATEVER THE INPUT: true; the input reads as it did. -/
def fnNatTextSpec : ChangeSpec := { name := "fnNatText", fn := fun _ => fun
  | [d] => { results := [.lit (.bool true)], args := [d] }
  | _ => none }
def fnNatTextRow : OpenClaim := { program := "ytehplfmnipadmad", sum := "87c386fa434ee4e96c3729e9214ee19c64b954cf54d2152829e3d05bccf1129a", func := "loop.example/s01493/laws.FnNatText", spec := "fnNatText", unfollowed := true, recurses := true, named := ["math/bits.divideError", "math/bits.overflowError"], plainKeys := false, apart := false }
def FnNatTextSaid : Prop := fnNatTextRow.holds Try.pinned (OpenSpec.ofChange fnNatTextSpec)

/-- ITS FALSE NEIGHBOUR: 'it returns false'. Refute it at one input. -/
def fnNatTextWrong : ChangeSpec := { name := "fnNatText", fn := fun _ => fun
  | [d] => { results := [.lit (.bool false)], args := [d] }
  | _ => none }
def FnNatTextWrongFalsely : Prop := fnNatTextRow.holds Try.pinned (OpenSpec.ofChange fnNatTextWrong)

/-- 'laws.FnDivMod': WHATEVER THE INPUT: true; the input reads as it did. -/
def fnDivModSpec : ChangeSpec := { name := "fnDivMod", fn := fun _ => fun
  | [d] => { results := [.lit (.bool true)], args := [d] }
  | _ => none }
def fnDivModRow : OpenClaim := { program := "ytehplfmnipadmad", sum := "87c386fa434ee4e96c3729e9214ee19c64b954cf54d2152829e3d05bccf1129a", func := "loop.example/s01493/laws.FnDivMod", spec := "fnDivMod", named := ["math/bits.divideError", "math/bits.overflowError"], plainKeys := false, apart := false }
def FnDivModSaid : Prop := fnDivModRow.holds Try.pinned (OpenSpec.ofChange fnDivModSpec)

/-- ITS FALSE NEIGHBOUR: 'it returns false'. Refute it at one input. -/
def fnDivModWrong : ChangeSpec := { name := "fnDivMod", fn := fun _ => fun
  | [d] => { results := [.lit (.bool false)], args := [d] }
  | _ => none }
def FnDivModWrongFalsely : Prop := fnDivModRow.holds Try.pinned (OpenSpec.ofChange fnDivModWrong)

/-- 'laws.FnExactRunCache': WHATEVER THE INPUT: true; the input reads as it did. -/
def fnExactRunCacheSpec : ChangeSpec := { name := "fnExactRunCache", fn := fun _ => fun
  | [d1, d2, d3] => { results := [.lit (.bool true)], args := [d1, d2, d3] }
  | _ => none }
def fnExactRunCacheRow : OpenClaim := { program := "ytehplfmnipadmad", sum := "87c386fa434ee4e96c3729e9214ee19c64b954cf54d2152829e3d05bccf1129a", func := "loop.example/s01493/laws.FnExactRunCache", spec := "fnExactRunCache", unfollowed := true, recurses := true, plainKeys := false, apart := false }
def FnExactRunCacheSaid : Prop := fnExactRunCacheRow.holds Try.pinned (OpenSpec.ofChange fnExactRunCacheSpec)

/-- ITS FALSE NEIGHBOUR: 'it returns false'. Refute it at one input. -/
def fnExactRunCacheWrong : ChangeSpec := { name := "fnExactRunCache", fn := fun _ => fun
  | [d1, d2, d3] => { results := [.lit (.bool false)], args := [d1, d2, d3] }
  | _ => none }
def FnExactRunCacheWrongFalsely : Prop := fnExactRunCacheRow.holds Try.pinned (OpenSpec.ofChange fnExactRunCacheWrong)

/- THE SECOND FORM. 'bulk': how many values and letters a reading holds, each counted each time it is reached (what is shared counts as often as it is met; a slice's spare places count too). A statement '..UptoSaid' is the law's where the arguments, and the package variables that the reading takes, are together of bulk at most 1048576: NARROWER than '..Said'. Prove '..Said' where nothing that the law and all that it calls make is longer than what came in: it says more and counts as full. Else prove '..UptoSaid'. A law counts once. -/
mutual
def uptoBulk {H : Type} : DataW H → Nat
  | .lit (.string bytes) => bytes.length + 1
  | .lit _ => 1
  | .nil => 1
  | .ptr d => uptoBulk d + 1
  | .slice elems spare => uptoBulkAll elems + uptoBulkAll spare + 1
  | .agg parts => uptoBulkAll parts + 1
  | .iface _ d => uptoBulk d + 1
  | .map entries => uptoBulkEntries entries + 1
  | .held _ => 1
def uptoBulkAll {H : Type} : List (DataW H) → Nat
  | [] => 0
  | d :: r => uptoBulk d + uptoBulkAll r
def uptoBulkEntries {H : Type} : List (Lit × DataW H) → Nat
  | [] => 0
  | x :: r => uptoBulkEntry x + uptoBulkEntries r
def uptoBulkEntry {H : Type} : Lit × DataW H → Nat
  | (.string bytes, d) => bytes.length + uptoBulk d + 1
  | (_, d) => uptoBulk d + 1
 end
def uptoSmall : (H : Type) → List (DataW H) → Bool := fun _ ds => decide (uptoBulkAll ds ≤ 1048576)
def OpenSpec.upto (s : _root_.Go.ChangeSpec) : _root_.Go.OpenSpec := { _root_.Go.OpenSpec.ofChange s with cond := some uptoSmall }

/-- 'laws.FnNatText', WHERE WHAT IT READS IS OF BULK AT MOST 1048576: true; the input reads as it did. -/
def fnNatTextUptoRow : OpenClaim := { program := "ytehplfmnipadmad", sum := "87c386fa434ee4e96c3729e9214ee19c64b954cf54d2152829e3d05bccf1129a", func := "loop.example/s01493/laws.FnNatText", spec := "fnNatText", unfollowed := true, recurses := true, named := ["math/bits.divideError", "math/bits.overflowError"], plainKeys := false, apart := false, narrowed := true }
def FnNatTextUptoSaid : Prop := fnNatTextUptoRow.holds Try.pinned (OpenSpec.upto fnNatTextSpec)

/-- 'laws.FnDivMod', WHERE WHAT IT READS IS OF BULK AT MOST 1048576: true; the input reads as it did. -/
def fnDivModUptoRow : OpenClaim := { program := "ytehplfmnipadmad", sum := "87c386fa434ee4e96c3729e9214ee19c64b954cf54d2152829e3d05bccf1129a", func := "loop.example/s01493/laws.FnDivMod", spec := "fnDivMod", named := ["math/bits.divideError", "math/bits.overflowError"], plainKeys := false, apart := false, narrowed := true }
def FnDivModUptoSaid : Prop := fnDivModUptoRow.holds Try.pinned (OpenSpec.upto fnDivModSpec)

/-- 'laws.FnExactRunCache', WHERE WHAT IT READS IS OF BULK AT MOST 1048576: true; the input reads as it did. -/
def fnExactRunCacheUptoRow : OpenClaim := { program := "ytehplfmnipadmad", sum := "87c386fa434ee4e96c3729e9214ee19c64b954cf54d2152829e3d05bccf1129a", func := "loop.example/s01493/laws.FnExactRunCache", spec := "fnExactRunCache", unfollowed := true, recurses := true, plainKeys := false, apart := false, narrowed := true }
def FnExactRunCacheUptoSaid : Prop := fnExactRunCacheUptoRow.holds Try.pinned (OpenSpec.upto fnExactRunCacheSpec)

end Rows
end Go.Proofs.Ytehplfmnipadmad
