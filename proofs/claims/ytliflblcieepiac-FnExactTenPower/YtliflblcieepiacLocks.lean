import Derived.Test.YtliflblcieepiacProg
import Derived.Conc.RwLib
import Derived.Conc.MuData
import Derived.KernelRfl
namespace Go.Proofs
set_option linter.unusedVariables false
set_option maxRecDepth 100000

abbrev Try.muLink : Go.Conc.Locks.MuLink := { lock := 99, unlock := 100, ilock := 113, iunlock := 114, lockSlow := 126, unlockSlow := 129, disable := 122, enable := 124, acquire := 125, relMerge := 127, cas32 := 123, add32 := 128, tMutex := 161, tIMutex := 159, tPMutex := 180, tPIMutex := 191, tPI32 := 193, tUP := 195, tNoCopy := 156, tU32 := 157 }

theorem Try.muLib : Go.Conc.Locks.MuLib Try.prog Try.muLink :=
  ⟨Try.func99, Try.func100, Try.func113, Try.func114, Try.func122, Try.func124, Try.func125, Try.func127, Try.func123, Try.func128, Try.underlying159, Try.runUnderlying159, Try.sizeOf159, Try.isAgg159, Try.zeroValue159, Try.underlying161, Try.runUnderlying161, Try.sizeOf161, Try.isAgg161, Try.zeroValue161, Try.underlying180, Try.runUnderlying180, Try.sizeOf180, Try.isAgg180, Try.zeroValue180, Try.underlying191, Try.runUnderlying191, Try.sizeOf191, Try.isAgg191, Try.zeroValue191, Try.underlying193, Try.runUnderlying193, Try.sizeOf193, Try.isAgg193, Try.zeroValue193, Try.underlying195, Try.runUnderlying195, Try.sizeOf195, Try.isAgg195, Try.zeroValue195, Try.underlying156, Try.runUnderlying156, Try.sizeOf156, Try.isAgg156, Try.zeroValue156, Try.underlying21, Try.runUnderlying21, Try.sizeOf21, Try.isAgg21, Try.zeroValue21, (by kernel_rfl)⟩

end Go.Proofs
