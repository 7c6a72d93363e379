import Derived.Test.YtdbhahiieokplaaGreatDoorGStA
import Derived.Lib.AppendIntMem
import Derived.Lib.Walk
import Derived.Lib.Hide
import Derived.WalkKit
import Derived.BigCall
import Derived.BigGuard
set_option linter.unusedSimpArgs false
set_option linter.unusedVariables false

namespace Go.Proofs.YtdbhahiieokplaaGreatDoor
open Go.RowKit Go.Shelf Go.Sort Go.Lib

end Go.Proofs.YtdbhahiieokplaaGreatDoor
