import Derived.Test.YtdbhahiieokplaaGreatDoorGShelf
import Derived.Test.YtdbhahiieokplaaGreatDoorGLawA
set_option linter.unusedSimpArgs false
set_option linter.unusedVariables false

namespace Go.Proofs.YtdbhahiieokplaaGreatDoor
open Go.RowKit Go.Shelf

end Go.Proofs.YtdbhahiieokplaaGreatDoor
