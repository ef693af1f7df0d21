/- matchguardref05: Text. -/
import Derived.Test.YtodmkmoglchoeaaGreatDoorJNRef
namespace Go.Proofs.YtodmkmoglchoeaaGreatDoor
open Go.RowKit

end Go.Proofs.YtodmkmoglchoeaaGreatDoor
