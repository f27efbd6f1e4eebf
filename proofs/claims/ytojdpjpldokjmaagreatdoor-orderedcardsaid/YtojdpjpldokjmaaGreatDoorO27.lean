/- What the library does for a row's key, by the shelf's contracts; rows without those met before. -/
import Derived.Test.YtojdpjpldokjmaaGreatDoorO26
import Derived.Test.YtojdpjpldokjmaaGreatDoorO20
import Derived.Test.YtojdpjpldokjmaaGreatDoorShelf
set_option maxHeartbeats 60000000
set_option maxRecDepth 100000
namespace Go.Proofs.YtojdpjpldokjmaaGreatDoor
open Go.RowKit Go.Deep
set_option linter.unusedSimpArgs false
set_option linter.unusedVariables false
theorem keyLib:KeyLib := ⟨fun B n i sv xs w h0 h1 hown hB hn htab=>Tryz.strconv_AppendInt_10 B n i h0 h1 sv xs w hown hB (by omega) htab⟩
theorem onceM:OnceM := fun qs v base w hp hown hnew hl hok=>withoutTwiceM keyLib qs v base w hp hown hnew hl hok
end Go.Proofs.YtojdpjpldokjmaaGreatDoor
