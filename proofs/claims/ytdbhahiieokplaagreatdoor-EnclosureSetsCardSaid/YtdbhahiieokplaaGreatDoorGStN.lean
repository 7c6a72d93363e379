import Derived.Test.YtdbhahiieokplaaGreatDoorGLawA
import Derived.Lib.ItoaNum
set_option linter.unusedSimpArgs false
set_option linter.unusedVariables false

namespace Go.Proofs.YtdbhahiieokplaaGreatDoor
open Go.Lib

def G19:Nat:=10000000000000000000
end Go.Proofs.YtdbhahiieokplaaGreatDoor
