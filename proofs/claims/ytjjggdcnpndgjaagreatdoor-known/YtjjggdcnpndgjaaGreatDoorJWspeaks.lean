/- (*Grammar).speaks. -/
import Derived.Test.YtjjggdcnpndgjaaGreatDoorJ7
namespace Go.Proofs.YtjjggdcnpndgjaaGreatDoor
open Go.RowKit

end Go.Proofs.YtjjggdcnpndgjaaGreatDoor
