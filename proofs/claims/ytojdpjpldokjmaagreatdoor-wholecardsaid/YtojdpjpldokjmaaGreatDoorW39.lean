/- Known, plainly: the answers of its statements. -/
import Derived.Test.YtojdpjpldokjmaaGreatDoorW10
set_option maxHeartbeats 16000000
set_option maxRecDepth 100000
namespace Go.Proofs.YtojdpjpldokjmaaGreatDoor
namespace Pl
end Pl
end Go.Proofs.YtojdpjpldokjmaaGreatDoor
