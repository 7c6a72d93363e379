import Derived.Test.YtpnokfgplnmjpaaGreatDoorShelfB
import Derived.Test.YtpnokfgplnmjpaaGreatDoorGLawA

namespace Go.Proofs.YtpnokfgplnmjpaaGreatDoor
open Go.RowKit Go.Shelf

end Go.Proofs.YtpnokfgplnmjpaaGreatDoor
