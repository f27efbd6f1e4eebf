/- The keep Known: the walk. -/
import Derived.Test.YtojdpjpldokjmaaGreatDoorW33
import Derived.Test.YtojdpjpldokjmaaGreatDoorW38
import Derived.Test.YtojdpjpldokjmaaGreatDoorW39
set_option maxHeartbeats 16000000
set_option maxRecDepth 100000
namespace Go.Proofs.YtojdpjpldokjmaaGreatDoor
open Go.RowKit Go.Deep
set_option linter.unusedSimpArgs false
set_option linter.unusedVariables false
structure SvG (w:World) (M:Nat -> Prop):Prop where
 g:SaveG w
 not:∀ k,k = 5 \/ k = 2 \/ k = 0 -> ¬ M k
theorem SvG.step {w w':World} {M M':Nat -> Prop} (h:SvG w M) (hs:Stp w M w' M'):SvG w' M' :=
 ⟨h.g.keep (fun k hk=>hs.keep.block k ⟨h.g.lts k hk,h.not k hk⟩),fun k hk=>hs.not (h.g.lts k hk) (h.not k hk)⟩
theorem row_new {W:World} {k:Nat} {r:List Pl.V} {C:Array Value} (h:W.heap[k]? = some (.cells C 34)) (hC:C = (rowC r).toArray):RowsW W W.heap.size 3 vC r (.slice (some ⟨k,0,none⟩) r.length r.length) := by
 subst hC
 have hz := lt_of_blk h
 refine ⟨_,_,rfl,fun hn=>⟨k,rfl,hz,fun i x hx j u hu=>?_⟩⟩
 rw [blk_cell h]
 have h1 := flat_at vC 3 (fun _=>rfl) r i j x u hx hu
 simpa [rowC] using h1
end Go.Proofs.YtojdpjpldokjmaaGreatDoor
