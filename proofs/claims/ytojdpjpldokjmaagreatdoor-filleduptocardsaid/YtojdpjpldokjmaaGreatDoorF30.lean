/- What stands ahead of a script: plainly. -/
import Derived.Test.YtojdpjpldokjmaaGreatDoorF07
import Derived.KernelRfl
set_option maxHeartbeats 60000000
set_option maxRecDepth 100000
namespace Go.Proofs.YtojdpjpldokjmaaGreatDoor
namespace Pl
def fC:List UInt8:=[67,82,69,65,84,69,32,84,65,66,76,69,32,116,32,40,97,32,73,78,84,44,32,98,32,84,69,88,84,41]
def fI:List UInt8:=[73,78,83,69,82,84,32,73,78,84,79,32,116,32,86,65,76,85,69,83,32,40,49,44,32,39,120,39,41]
def fD0:DB:=[⟨[116],[([97],1),([98],2)],[]⟩]
def fD1:DB:=[⟨[116],[([97],1),([98],2)],[[⟨1,1,[]⟩,⟨2,0,[120]⟩]]⟩]
theorem fC_exec:exec [] fC=(fD0,no 0):=by kernel_rfl
theorem fI_exec:exec fD0 fI=(fD1,⟨[],1,0⟩):=by kernel_rfl
theorem fC_kind:∀ s,pParse fC=some s->s.kind=99\/s.kind=105:=by
 have h:(pParse fC).map (·.kind)=some 99:=by kernel_rfl
 intro s hs
 rw [hs] at h
 simp at h
 exact .inl h
theorem fI_kind:∀ s,pParse fI=some s->s.kind=99\/s.kind=105:=by
 have h:(pParse fI).map (·.kind)=some 105:=by kernel_rfl
 intro s hs
 rw [hs] at h
 simp at h
 exact .inr h
end Pl
end Go.Proofs.YtojdpjpldokjmaaGreatDoor
