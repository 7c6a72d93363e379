import Derived.Test.YtpnokfgplnmjpaaGreatDoorGStA
import Derived.Lib.AppendIntMem
import Derived.Lib.Walk
import Derived.Lib.Hide
import Derived.WalkKit
import Derived.BigCall
import Derived.BigGuard

namespace Go.Proofs.YtpnokfgplnmjpaaGreatDoor
open Go.RowKit Go.Shelf Go.Sort Go.Lib

def Ten (w : World) : Prop := Lib.TabIs Tryz.prog w "internal/strconv.uint64pow10" .u64 Lib.pow10Tab

end Go.Proofs.YtpnokfgplnmjpaaGreatDoor
