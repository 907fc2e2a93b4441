import Derived.Test.YtmgigodkhbkiaacProg
import Derived.Conc.RwLib
import Derived.Conc.MuData
import Derived.KernelRfl
namespace Go.Proofs
set_option linter.unusedVariables false
set_option maxRecDepth 100000

abbrev Try.muLink : Go.Conc.Locks.MuLink := { lock := 62, unlock := 63, ilock := 74, iunlock := 75, lockSlow := 87, unlockSlow := 90, disable := 83, enable := 85, acquire := 86, relMerge := 88, cas32 := 84, add32 := 89, tMutex := 87, tIMutex := 85, tPMutex := 103, tPIMutex := 113, tPI32 := 115, tUP := 117, tNoCopy := 82, tU32 := 83 }

theorem Try.muLib : Go.Conc.Locks.MuLib Try.prog Try.muLink :=
  ⟨Try.func62, Try.func63, Try.func74, Try.func75, Try.func83, Try.func85, Try.func86, Try.func88, Try.func84, Try.func89, Try.underlying85, Try.runUnderlying85, Try.sizeOf85, Try.isAgg85, Try.zeroValue85, Try.underlying87, Try.runUnderlying87, Try.sizeOf87, Try.isAgg87, Try.zeroValue87, Try.underlying103, Try.runUnderlying103, Try.sizeOf103, Try.isAgg103, Try.zeroValue103, Try.underlying113, Try.runUnderlying113, Try.sizeOf113, Try.isAgg113, Try.zeroValue113, Try.underlying115, Try.runUnderlying115, Try.sizeOf115, Try.isAgg115, Try.zeroValue115, Try.underlying117, Try.runUnderlying117, Try.sizeOf117, Try.isAgg117, Try.zeroValue117, Try.underlying82, Try.runUnderlying82, Try.sizeOf82, Try.isAgg82, Try.zeroValue82, Try.underlying21, Try.runUnderlying21, Try.sizeOf21, Try.isAgg21, Try.zeroValue21, (by kernel_rfl)⟩

end Go.Proofs
