/- Slices of numbers that come in. -/
import Derived.Test.YtojdpjpldokjmaaGreatDoorG36
import Derived.Test.YtojdpjpldokjmaaGreatDoorG43
import Derived.ChangeSlices
import Derived.Carry
import Derived.WalkKit
import Derived.ProofKit
import Derived.SevenTiedAt
namespace Go.Proofs.YtojdpjpldokjmaaGreatDoor
open Go.ChangeShapes Go.WideShapes Go.ChangeAt Go.RowKit
set_option linter.unusedSimpArgs false
set_option linter.unusedVariables false

theorem ownK : ownKnob Tryz.prog.godebug = none := by kernel_rfl
theorem in64_wf {x : Int} (h : (Lit.int .i64 x).wf = true) : Pl.in64 x := by simpa [Pl.in64, Lit.wf, IntKind.min, IntKind.max, IntKind.signed, IntKind.bits] using h
end Go.Proofs.YtojdpjpldokjmaaGreatDoor
