import Derived.Test.YtpnokfgplnmjpaaGreatDoorGShelf
import Derived.Test.YtpnokfgplnmjpaaGreatDoorGLawA
set_option linter.unusedSimpArgs false
set_option linter.unusedVariables false

namespace Go.Proofs.YtpnokfgplnmjpaaGreatDoor
open Go.RowKit Go.Shelf

end Go.Proofs.YtpnokfgplnmjpaaGreatDoor
