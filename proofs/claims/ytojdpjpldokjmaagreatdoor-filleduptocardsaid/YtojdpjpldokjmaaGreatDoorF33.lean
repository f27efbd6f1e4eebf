/- Slices of numbers that come in. -/
import Derived.Test.YtojdpjpldokjmaaGreatDoorF08
import Derived.Test.YtojdpjpldokjmaaGreatDoorF32
import Derived.ChangeSlices
import Derived.Carry
import Derived.WalkKit
import Derived.ProofKit
import Derived.SevenTiedAt
set_option maxHeartbeats 60000000
set_option maxRecDepth 100000
namespace Go.Proofs.YtojdpjpldokjmaaGreatDoor
open Go.ChangeShapes Go.WideShapes Go.ChangeAt Go.RowKit
set_option linter.unusedSimpArgs false
set_option linter.unusedVariables false
theorem Tryz.laidOut:laidOutB Tryz.prog=true:=by as_aux_lemma=>kernel_rfl
theorem ownK:ownKnob Tryz.prog.godebug=none:=by kernel_rfl
theorem c_int : Tryz.prog.cellsOf 3=1:=by kernel_rfl
theorem in64_wf {x:Int}(h:(Lit.int .i64 x).wf=true):Pl.in64 x:=by simpa [Pl.in64,Lit.wf,IntKind.min,IntKind.max,IntKind.signed,IntKind.bits] using h
theorem lt_of_cell' {w:World}{p:Addr}{v:Value}(h:w.cell? p=some v):p.block<w.heap.size:=by
 rcases Nat.lt_or_ge p.block w.heap.size with h1|h1
 ·exact h1
 ·exfalso
  unfold World.cell? at h
  rw [Array.getElem?_eq_none h1] at h
  simp at h
end Go.Proofs.YtojdpjpldokjmaaGreatDoor
