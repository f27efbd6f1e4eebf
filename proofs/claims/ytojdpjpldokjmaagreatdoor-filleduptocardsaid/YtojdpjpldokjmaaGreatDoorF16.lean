/- The code's sift: rows for which a condition is TRUE, and the others. -/
import Derived.Test.YtojdpjpldokjmaaGreatDoorF15
import Derived.WalkMore
set_option maxHeartbeats 60000000
set_option maxRecDepth 100000
namespace Go.Proofs.YtojdpjpldokjmaaGreatDoor.Pl
abbrev PRow:=List V × Go.Value
end Go.Proofs.YtojdpjpldokjmaaGreatDoor.Pl
namespace Go.Proofs.YtojdpjpldokjmaaGreatDoor
open Go.RowKit Go.Deep
set_option linter.unusedSimpArgs false
set_option linter.unusedVariables false
def MatW (w:World)(hi:Nat)(ps:List Pl.PRow)(v:Value):Prop:=RowsW w hi 1 (fun p=>[p.2]) ps v/\∀ p ∈ ps,RowsW w hi 3 vC p.1 p.2
def sndC (ps:List Pl.PRow):List Value:=ps.map (·.2)
theorem sndC_flat (ps:List Pl.PRow):ps.flatMap (fun p=>[p.2])=sndC ps:=by
 induction ps with
 | nil=>rfl
 | cons a l ih=>rw [List.flatMap_cons,ih];rfl
theorem mat_own {w:World}{base:Nat}{ps:List Pl.PRow}{v:Value}(h:w.ownsRow base 32 1 v ps.length (sndC ps))(hr:∀ p ∈ ps,RowsW w w.heap.size 3 vC p.1 p.2):MatW w w.heap.size ps v:=by
 rw [<- sndC_flat] at h
 exact ⟨own_rows (f:=fun p:Pl.PRow=>[p.2]) (fun x=>rfl) h (Nat.le_refl _),hr⟩
def NewRows (w:World)(base:Nat)(qs:List Pl.PRow):Prop:=(∀ q ∈ qs,w.ownsRow base 34 3 q.2 q.1.length (rowC q.1))/\qs.Pairwise (fun a b=>∀ k,a.2.ownBlock=some k->b.2.ownBlock≠some k)
def part (qs:List Pl.PRow)(off lim:Nat):List Pl.PRow:=(qs.drop off).take lim
end Go.Proofs.YtojdpjpldokjmaaGreatDoor
namespace Go.Proofs.YtojdpjpldokjmaaGreatDoor.Pl
end Go.Proofs.YtojdpjpldokjmaaGreatDoor.Pl
namespace Go.Proofs.YtojdpjpldokjmaaGreatDoor
open Go.RowKit Go.Deep
set_option linter.unusedSimpArgs false
set_option linter.unusedVariables false
end Go.Proofs.YtojdpjpldokjmaaGreatDoor
namespace Go.Proofs.YtojdpjpldokjmaaGreatDoor.Pl
end Go.Proofs.YtojdpjpldokjmaaGreatDoor.Pl
namespace Go.Proofs.YtojdpjpldokjmaaGreatDoor
open Go.RowKit Go.Deep
set_option linter.unusedSimpArgs false
set_option linter.unusedVariables false
end Go.Proofs.YtojdpjpldokjmaaGreatDoor
