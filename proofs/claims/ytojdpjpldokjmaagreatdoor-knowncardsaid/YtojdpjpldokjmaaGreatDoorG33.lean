/- Reckoned, plainly: the answers of its statements. -/
import Derived.Test.YtojdpjpldokjmaaGreatDoorG08
import Derived.Test.YtojdpjpldokjmaaGreatDoorG21
namespace Go.Proofs.YtojdpjpldokjmaaGreatDoor
namespace Pl
open Go.Deep

def nV (n : Int) : V := ⟨1, n, []⟩
end Pl
end Go.Proofs.YtojdpjpldokjmaaGreatDoor
