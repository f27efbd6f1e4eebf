/- The library's Grow and Concat at rows of values. -/
import Derived.Test.YtojdpjpldokjmaaGreatDoorF16
import Derived.Lib.AppendZeros
set_option maxHeartbeats 60000000
set_option maxRecDepth 100000
namespace Go.Proofs.YtojdpjpldokjmaaGreatDoor
open Go.RowKit Go.Deep
set_option linter.unusedSimpArgs false
set_option linter.unusedVariables false
end Go.Proofs.YtojdpjpldokjmaaGreatDoor
namespace Go.Proofs.YtojdpjpldokjmaaGreatDoor.Pl
end Go.Proofs.YtojdpjpldokjmaaGreatDoor.Pl
namespace Go.Proofs.YtojdpjpldokjmaaGreatDoor
open Go.RowKit Go.Deep
set_option linter.unusedSimpArgs false
set_option linter.unusedVariables false
end Go.Proofs.YtojdpjpldokjmaaGreatDoor
namespace Go.Proofs.YtojdpjpldokjmaaGreatDoor.Pl
end Go.Proofs.YtojdpjpldokjmaaGreatDoor.Pl
namespace Go.Proofs.YtojdpjpldokjmaaGreatDoor
open Go.RowKit Go.Deep
set_option linter.unusedSimpArgs false
set_option linter.unusedVariables false
def others (ss:List (Pl.It × Value)):List (List UInt8):=ss.map (fun p=>p.1.other)
end Go.Proofs.YtojdpjpldokjmaaGreatDoor
namespace Go.Proofs.YtojdpjpldokjmaaGreatDoor.Pl
end Go.Proofs.YtojdpjpldokjmaaGreatDoor.Pl
namespace Go.Proofs.YtojdpjpldokjmaaGreatDoor
open Go.RowKit Go.Deep
set_option linter.unusedSimpArgs false
set_option linter.unusedVariables false
end Go.Proofs.YtojdpjpldokjmaaGreatDoor
namespace Go.Proofs.YtojdpjpldokjmaaGreatDoor.Pl
end Go.Proofs.YtojdpjpldokjmaaGreatDoor.Pl
namespace Go.Proofs.YtojdpjpldokjmaaGreatDoor
open Go.RowKit Go.Deep
set_option linter.unusedSimpArgs false
set_option linter.unusedVariables false
theorem step_call2 {P:Program}{ops:Array Oper}{o:Oper}{a:Act}{w:World}{K:Act->World->Prop}{Q:Exit->Act->World->Prop}{E:Prop}
 (hg:o.guard=none) (f:Nat) (x y:Operand) (tys:Array TypeId) (hop:o.op=Op.call { callee:=Callee.value (Operand.func f),args:=#[x,y],argTypes:=tys })
 (vx vy:Value) (hent:(callFunc f #[vx,vy]).run P w=.ok (.enter f #[vx,vy]) w) (hx:a.eval x=vx) (hy:a.eval y=vy) (Post:Value->World->Prop) (hc:Calls P f #[vx,vy] w fun e w'=>∃ v,e=.returned v/\Post v w')
 (hK:∀ v w',Post v w'->K (a.put o.dst v) w') :
 if Region.wanted o (yielded ops a.tmps)=true then Oper.wp P o a w K Q else E:=by
 have hw:Region.wanted o (yielded ops a.tmps)=true:=by simp [Region.wanted,hg]
 rw [if_pos hw]
 have hrun:(execOp a.eval o).run P w=.ok (.enter f #[vx,vy]) w:=by
  rw [<- hent,<- hx,<- hy]
  simp [execOp,hop,resolve,invoke,go_sem,Act.eval]
 unfold Oper.wp
 rw [hrun,Oper.upon_enter]
 refine hc.mono ?_
 rintro e w' ⟨v,rfl,hp⟩
 exact hK v w' hp
theorem own_nil {w:World}{base:Nat}{e:TypeId}{size:Nat}:w.ownsRow base e size (.slice none 0 0) 0 []:=World.ownsRow_nil _ _ _ _
theorem zip_fst {α β:Type}:∀ {a:List α}{b:List β},a.length<=b.length->(a.zip b).map (·.1)=a
 | [],b,_=>by simp
 | _ :: _,[],h=>by simp at h
 | x :: a,y :: b,h=>by simp [zip_fst (a:=a) (b:=b) (by simpa using h)]
end Go.Proofs.YtojdpjpldokjmaaGreatDoor
namespace Go.Proofs.YtojdpjpldokjmaaGreatDoor.Pl
end Go.Proofs.YtojdpjpldokjmaaGreatDoor.Pl
namespace Go.Proofs.YtojdpjpldokjmaaGreatDoor
open Go.RowKit Go.Deep
set_option linter.unusedSimpArgs false
set_option linter.unusedVariables false
theorem vals_len {s:Pl.St}(hs:Pl.okSt s)(cols:List Pl.Col)(hc:cols.length<=600):(Pl.valuesOf s cols).length<=600:=by
 unfold Pl.valuesOf
 split
 ·simp [Pl.stars];exact hc
 ·have:=hs.len;simpa using this
end Go.Proofs.YtojdpjpldokjmaaGreatDoor
