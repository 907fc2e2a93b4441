import Derived.Test.YtjffpclidcloeaaGreatDoorProg
import Derived.Conc.RwLib
import Derived.Conc.MuData
import Derived.KernelRfl
namespace Go.Proofs
set_option linter.unusedVariables false
set_option maxRecDepth 100000
abbrev Tryz.muLink : Go.Conc.Locks.MuLink := { lock := 69, unlock := 70, ilock := 92, iunlock := 93, lockSlow := 112, unlockSlow := 115, disable := 108, enable := 110, acquire := 111, relMerge := 113, cas32 := 109, add32 := 114, tMutex := 92, tIMutex := 90, tPMutex := 140, tPIMutex := 158, tPI32 := 160, tUP := 162, tNoCopy := 87, tU32 := 88 }

theorem Tryz.muLib : Go.Conc.Locks.MuLib Tryz.prog Tryz.muLink :=
 ⟨Tryz.func69, Tryz.func70, Tryz.func92, Tryz.func93, Tryz.func108, Tryz.func110, Tryz.func111, Tryz.func113, Tryz.func109, Tryz.func114, Tryz.underlying90, Tryz.runUnderlying90, Tryz.sizeOf90, Tryz.isAgg90, Tryz.zeroValue90, Tryz.underlying92, Tryz.runUnderlying92, Tryz.sizeOf92, Tryz.isAgg92, Tryz.zeroValue92, Tryz.underlying140, Tryz.runUnderlying140, Tryz.sizeOf140, Tryz.isAgg140, Tryz.zeroValue140, Tryz.underlying158, Tryz.runUnderlying158, Tryz.sizeOf158, Tryz.isAgg158, Tryz.zeroValue158, Tryz.underlying160, Tryz.runUnderlying160, Tryz.sizeOf160, Tryz.isAgg160, Tryz.zeroValue160, Tryz.underlying162, Tryz.runUnderlying162, Tryz.sizeOf162, Tryz.isAgg162, Tryz.zeroValue162, Tryz.underlying87, Tryz.runUnderlying87, Tryz.sizeOf87, Tryz.isAgg87, Tryz.zeroValue87, Tryz.underlying21, Tryz.runUnderlying21, Tryz.sizeOf21, Tryz.isAgg21, Tryz.zeroValue21, (by kernel_rfl)⟩

end Go.Proofs
