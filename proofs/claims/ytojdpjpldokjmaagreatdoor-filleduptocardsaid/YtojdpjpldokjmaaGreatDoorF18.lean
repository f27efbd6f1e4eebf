/- The code's choose: a SELECT's rows. -/
import Derived.Test.YtojdpjpldokjmaaGreatDoorF14
import Derived.Test.YtojdpjpldokjmaaGreatDoorF17
import Derived.Test.YtojdpjpldokjmaaGreatDoorF07
import Derived.Test.YtojdpjpldokjmaaGreatDoorF13
import Derived.Test.YtojdpjpldokjmaaGreatDoorF08
set_option maxHeartbeats 60000000
set_option maxRecDepth 100000
namespace Go.Proofs.YtojdpjpldokjmaaGreatDoor.Pl
end Go.Proofs.YtojdpjpldokjmaaGreatDoor.Pl
namespace Go.Proofs.YtojdpjpldokjmaaGreatDoor
open Go.RowKit Go.Deep
set_option linter.unusedSimpArgs false
set_option linter.unusedVariables false
theorem step_call3 {P:Program}{ops:Array Oper}{o:Oper}{a:Act}{w:World}{K:Act->World->Prop}{Q:Exit->Act->World->Prop}{E:Prop}
 (hg:o.guard=none) (f:Nat) (x y z:Operand) (tys:Array TypeId) (hop:o.op=Op.call { callee:=Callee.value (Operand.func f),args:=#[x,y,z],argTypes:=tys })
 (vx vy vz:Value) (hent:(callFunc f #[vx,vy,vz]).run P w=.ok (.enter f #[vx,vy,vz]) w) (hx:a.eval x=vx) (hy:a.eval y=vy) (hz:a.eval z=vz) (Post:Value->World->Prop) (hc:Calls P f #[vx,vy,vz] w fun e w'=>∃ v,e=.returned v/\Post v w')
 (hK:∀ v w',Post v w'->K (a.put o.dst v) w') :
 if Region.wanted o (yielded ops a.tmps)=true then Oper.wp P o a w K Q else E:=by
 have hw:Region.wanted o (yielded ops a.tmps)=true:=by simp [Region.wanted,hg]
 rw [if_pos hw]
 have hrun:(execOp a.eval o).run P w=.ok (.enter f #[vx,vy,vz]) w:=by
  rw [<- hent,<- hx,<- hy,<- hz]
  simp [execOp,hop,resolve,invoke,go_sem,Act.eval]
 unfold Oper.wp
 rw [hrun,Oper.upon_enter]
 refine hc.mono ?_
 rintro e w' ⟨v,rfl,hp⟩
 exact hK v w' hp
theorem tabMat {w:World}{M:Nat->Prop}{l:Lay}{t:Pl.Tab}(hT:TabW w M l t):MatW w w.heap.size (t.rows.zip l.us) l.rv/\(t.rows.zip l.us).map (·.1)=t.rows/\∀ p ∈ t.rows.zip l.us,RowO w M p.1 p.2:=by
 have hl:l.us.length=t.rows.length:=by have:=hT.rows.1;omega
 have hz:(t.rows.zip l.us).map (·.1)=t.rows:=zip_fst (Nat.le_of_eq hl.symm)
 have hs:sndC (t.rows.zip l.us)=l.us:=by
  unfold sndC
  have:∀ (a:List (List Pl.V)) (b:List Value),b.length=a.length->(a.zip b).map (·.2)=b:=fun a=>by
   induction a with
   | nil=>intro b hb;simp at hb;subst hb;rfl
   | cons x a ih=>intro b hb;cases b with
    | nil=>rfl
    | cons y b=>simp [ih b (by simpa using hb)]
  exact this _ _ hl
 have hro:∀ p ∈ t.rows.zip l.us,RowO w M p.1 p.2:=fun p hp=>by
  obtain ⟨j,hj,hjq⟩:=List.getElem_of_mem hp
  have hjz:(t.rows.zip l.us)[j]?=some p:=by rw [<- hjq];exact List.getElem?_eq_getElem hj
  rw [List.getElem?_zip_eq_some] at hjz
  exact hT.each j p.1 p.2 hjz.1 hjz.2
 refine ⟨mat_own (base:=0) ?_ (fun p hp=>own_rows (f:=vC) (fun _=>rfl) (hro p hp).1 (Nat.le_refl _)),hz,hro⟩
 rw [hs,List.length_zip,hl,Nat.min_self]
 exact hT.rows
end Go.Proofs.YtojdpjpldokjmaaGreatDoor
namespace Go.Proofs.YtojdpjpldokjmaaGreatDoor.Pl
end Go.Proofs.YtojdpjpldokjmaaGreatDoor.Pl
namespace Go.Proofs.YtojdpjpldokjmaaGreatDoor
open Go.RowKit Go.Deep
set_option linter.unusedSimpArgs false
set_option linter.unusedVariables false
abbrev Sg:=Nat × Pl.T × Value
def places (ss:List Sg):List Nat:=ss.map (·.1)
theorem itAt_pairs {w:World}{rb:Nat}{sh:Pl.It->Value->List Value}:∀ {its:List Pl.It}{cs:List Value},ItAt w rb sh its cs->∃ ps:List (Pl.It × Value),ps.map (·.1)=its/\cs=ps.flatMap (fun p=>sh p.1 p.2)/\∀ p ∈ ps,CTree w rb p.1.tree p.2
 | [],cs,h=>⟨[],rfl,h,by simp⟩
 | it :: its,cs,⟨a,rest,h1,h2,h3⟩=>by
  obtain ⟨ps,k1,k2,k3⟩:=itAt_pairs h3
  refine ⟨(it,.pointer a) :: ps,by simp [k1],by rw [h1,k2];simp,fun p hp=>?_⟩
  rcases List.mem_cons.1 hp with rfl|hp
  ·exact h2
  ·exact k3 p hp
theorem its_pairs {w:World}{rb base:Nat}{e:TypeId}{size:Nat}{sh:Pl.It->Value->List Value}{its:List Pl.It}{v:Value}(h:ItsW w rb base e size sh its v):∃ ps:List (Pl.It × Value),ps.map (·.1)=its/\w.ownsRow base e size v ps.length (ps.flatMap (fun p=>sh p.1 p.2))/\∀ p ∈ ps,TrW w w.heap.size p.1.tree p.2:=by
 obtain ⟨cs,h1,h2⟩:=h
 obtain ⟨ps,k1,k2,k3⟩:=itAt_pairs h2
 refine ⟨ps,k1,?_,fun p hp=>(k3 p hp).tr (Nat.le_refl _)⟩
 rw [<- k2,<- List.length_map (f:=fun p:Pl.It × Value=>p.1),k1]
 exact h1
theorem its_trees {w:World}{rb base:Nat}{its:List Pl.It}{v:Value}(h:ItsW w rb base 199 1 shV its v):∃ ts:List (Pl.T × Value),ts.map (·.1)=its.map (·.tree)/\TreesW w w.heap.size ts v:=by
 obtain ⟨ps,k1,k2,k3⟩:=its_pairs h
 refine ⟨ps.map (fun p=>(p.1.tree,p.2)),by rw [<- k1];simp,?_,fun p hp=>?_⟩
 ·refine own_rows (f:=fun p:Pl.T × Value=>[p.2]) (fun _=>rfl) (base:=base) (e:=199) ?_ (Nat.le_refl _)
  have e:(ps.map (fun p=>(p.1.tree,p.2))).flatMap (fun p:Pl.T × Value=>[p.2])=ps.flatMap (fun p=>shV p.1 p.2):=by
   rw [List.flatMap_map];rfl
  rw [e,List.length_map]
  exact k2
 ·obtain ⟨q,hq,rfl⟩:=List.mem_map.1 hp
  exact k3 q hq
theorem its_cols {w:World}{rb base:Nat}{s:Pl.St}{v:Value}(h:ItsW w rb base 97 2 shC s.items v):w.ownsRow base 97 2 v (colsOf s).length (tcsC (colsOf s)):=by
 obtain ⟨ps,k1,k2,k3⟩:=its_pairs h
 have e1:(colsOf s).length=ps.length:=by unfold colsOf;rw [<- k1];simp
 have e2:tcsC (colsOf s)=ps.flatMap (fun p=>shC p.1 p.2):=by
  unfold tcsC colsOf;rw [<- k1,List.map_map,List.flatMap_map];rfl
 rw [e1,e2]
 exact k2
theorem cst_create {w:World}{rb base n:Nat}{s:Pl.St}(h:CSt w rb base s n)(hk:s.kind=99):∃ cv,w.heap[n]?=some (.cells #[.string ⟨s.table.toArray⟩,cv] 190)/\w.ownsRow base 97 2 cv (colsOf s).length (tcsC (colsOf s)):=by
 obtain ⟨_,h⟩:=h
 rw [if_pos hk] at h
 obtain ⟨v,h1,h2⟩:=h
 exact ⟨v,h1,its_cols h2⟩
theorem cst_insert {w:World}{rb base n:Nat}{s:Pl.St}(h:CSt w rb base s n)(hk:s.kind=105):∃ tv ts,w.heap[n]?=some (.cells #[.string ⟨s.table.toArray⟩,tv] 194)/\ts.map (·.1)=s.items.map (·.tree)/\TreesW w w.heap.size ts tv:=by
 obtain ⟨_,h⟩:=h
 rw [if_neg (by omega),if_pos hk] at h
 obtain ⟨v,h1,h2⟩:=h
 obtain ⟨ts,k1,k2⟩:=its_trees h2
 exact ⟨v,ts,h1,k1,k2⟩
end Go.Proofs.YtojdpjpldokjmaaGreatDoor
namespace Go.Proofs.YtojdpjpldokjmaaGreatDoor.Pl
end Go.Proofs.YtojdpjpldokjmaaGreatDoor.Pl
namespace Go.Proofs.YtojdpjpldokjmaaGreatDoor
open Go.RowKit Go.Deep
set_option linter.unusedSimpArgs false
set_option linter.unusedVariables false
structure But (k:Nat)(w w':World):Prop where
 os:w'.os=w.os
 tape:w'.tape=w.tape
 output:w'.output=w.output
 size:w'.heap.size=w.heap.size
 block:∀ j,j≠k->w'.heap[j]?=w.heap[j]?
theorem But.refl (k:Nat)(w:World):But k w w:=⟨rfl,rfl,rfl,rfl,fun _ _=>rfl⟩
theorem But.set {k:Nat}{w w':World}(h:But k w w')(o:Nat)(v:Value):But k w (w'.setCell ⟨k,o,none⟩ v) :=
 ⟨h.os,h.tape,h.output,by rw [size_set];exact h.size,fun j hj=>by rw [Below.heap_setCell _ _ _ _ hj];exact h.block j hj⟩
theorem DbStep.boxed {lo:Nat}{w w' w'':World}{o:Obj}{M M':Nat->Prop}{b:Nat}{D:Pl.DB}{lay:List Lay}(h:DbStep lo (w.alloc o) M b D w' M' lay)(hs:But w.heap.size w' w'')(hM:M' w.heap.size->w''.heap[w.heap.size]?=w'.heap[w.heap.size]?):DbStep lo w M b D w'' M' lay:=by
 have hk:∀ k,M' k->w''.heap[k]?=w'.heap[k]?:=fun k hk=>by
  by_cases e:k=w.heap.size
  ·subst e;exact hM hk
  ·exact hs.block k e
 refine ⟨h.db.keep (Nat.le_of_eq hs.size.symm) hk,h.sub,h.new,hs.os.trans h.keep.os,hs.tape.trans h.keep.tape,hs.output.trans h.keep.output,?_,fun k hk=>?_⟩
 ·have:=h.keep.size
  simp at this
  rw [hs.size];omega
 ·rw [hs.block k (by omega),h.keep.block k ⟨by simp;omega,hk.2⟩,Below.heap_alloc _ _ _ hk.1]
def OutW (base:Nat)(w':World)(M M':Nat->Prop)(rows:List (List Pl.V))(rv:Value):Prop:=∃ qs:List Pl.PRow,rows=qs.map (·.1)/\w'.ownsRow base 32 1 rv qs.length (sndC qs)/\NewRows w' base qs/\(rv=.slice none 0 0\/M'=M)
theorem OutW.nil (base:Nat)(w':World)(M M':Nat->Prop):OutW base w' M M' [] (.slice none 0 0):=⟨[],rfl,own_nil,⟨by simp,.nil⟩,.inl rfl⟩
def PostDo (lo:Nat)(w:World)(M:Nat->Prop)(b:Nat)(o:Pl.DB × Pl.Ans)(e:Ending)(w':World):Prop :=
 ∃ rv M' lay',e=.returned (.tuple #[.agg #[rv,.int .i64 o.2.count],.int .i64 (o.2.err:Nat)])/\DbStep lo w M b o.1 w' M' lay'/\OutW w.heap.size w' M M' o.2.rows rv
theorem doSt_99 {D:Pl.DB}{s:Pl.St}(h:s.kind=99):Pl.doSt D s=Pl.doCreate D s:=by unfold Pl.doSt;rw [if_pos h]
theorem doSt_105 {D:Pl.DB}{s:Pl.St}(h:s.kind=105):Pl.doSt D s=Pl.doInsert D s:=by unfold Pl.doSt;rw [if_neg (by omega),if_pos h]
theorem create_rows (D:Pl.DB)(s:Pl.St):(Pl.doCreate D s).2.rows=[]/\(Pl.doCreate D s).2.count=0:=by
 unfold Pl.doCreate
 split
 ·exact ⟨rfl,rfl⟩
 ·split <;> exact ⟨rfl,rfl⟩
theorem insert_rows (D:Pl.DB)(s:Pl.St):(Pl.doInsert D s).2.rows=[]:=by
 unfold Pl.doInsert
 cases Pl.tabAt D s.table with
 | none=>rfl
 | some i =>
  simp only
  split
  ·rfl
  ·cases Pl.tcRow (s.items.map (·.tree)) ((Pl.tabD D i).cols.map (·.2)) with
   | some e=>rfl
   | none =>
    simp only
    cases Pl.evAll [] [] (s.items.map (·.tree)) with
    | error e=>rfl
    | ok row =>
     simp only
     split <;> rfl
theorem as_cc (W:World)(v:Value):(Instr.typeAssert (.iface 131 v) 79 131 true).run Tryz.prog W=.ok (.tuple #[v,.bool true]) W:=by kernel_rfl
theorem as_ic (W:World)(v:Value):(Instr.typeAssert (.iface 133 v) 79 131 true).run Tryz.prog W=.ok (.tuple #[.pointer none,.bool false]) W:=by kernel_rfl
theorem as_ii (W:World)(v:Value):(Instr.typeAssert (.iface 133 v) 79 133 true).run Tryz.prog W=.ok (.tuple #[v,.bool true]) W:=by kernel_rfl
abbrev boxO:Obj:=.cells #[.slice none 0 0,.int .i64 0] 36
theorem ch_done {lo:Nat}{w:World}{M:Nat->Prop}{b:Nat}{lay:List Lay}{D:Pl.DB}{o:Pl.DB × Pl.Ans}(h:DbW w M b lay D)(hlo:lo<=w.heap.size)(hr:o.2.rows=[])(w1:World)(hp:∃ M' lay',DbStep (w.heap.size+1) (w.alloc boxO) M b o.1 w1 M' lay') :
 w1.heap[w.heap.size]?=some boxO/\∀ w'',But w.heap.size w1 w''->PostDo lo w M b o (.returned (.tuple #[.agg #[.slice none 0 0,.int .i64 o.2.count],.int .i64 (o.2.err:Nat)])) w'':=by
 obtain ⟨M',lay',hst⟩:=hp
 have hnb:¬ M w.heap.size:=fun hm=>by have:=h.lt _ hm;omega
 have hnb':¬ M' w.heap.size:=fun hm=>by
  rcases hst.new _ hm with h'|h'
  ·exact hnb h'
  ·omega
 refine ⟨(hst.keep.block _ ⟨by simp,hnb⟩).trans (blk_new _ _),fun w'' hs=>⟨_,M',lay',rfl,(hst.boxed hs (fun hm=>absurd hm hnb')).low (by omega),?_⟩⟩
 rw [hr]
 exact OutW.nil _ _ _ _
theorem cr_done {lo:Nat}{w:World}{M:Nat->Prop}{b:Nat}{lay:List Lay}{D:Pl.DB}{o:Pl.DB × Pl.Ans}(h:DbW w M b lay D)(hr:o.2.rows=[]/\o.2.count=0)(w1:World)(hp:∃ M' lay',DbStep lo (w.alloc boxO) M b o.1 w1 M' lay') :
 w1.heap[w.heap.size]?=some boxO/\∀ w'',But w.heap.size w1 w''->w''.heap[w.heap.size]?=some boxO->PostDo lo w M b o (.returned (.tuple #[.agg #[.slice none 0 0,.int .i64 0],.int .i64 (o.2.err:Nat)])) w'':=by
 obtain ⟨M',lay',hst⟩:=hp
 have hnb:¬ M w.heap.size:=fun hm=>by have:=h.lt _ hm;omega
 have hx:=(hst.keep.block _ ⟨by simp,hnb⟩).trans (blk_new w boxO)
 refine ⟨hx,fun w'' hs hsame=>⟨_,M',lay',by rw [hr.2],hst.boxed hs (fun _=>by rw [hsame,hx]),?_⟩⟩
 rw [hr.1]
 exact OutW.nil _ _ _ _
theorem OutW.keep {base base':Nat}{w w':World}{M M':Nat->Prop}{rows:List (List Pl.V)}{rv:Value}(h:OutW base w M M' rows rv)(hk:∀ k,base<=k->k<w.heap.size->w'.heap[k]?=w.heap[k]?)(hb:base'<=base):OutW base' w' M M' rows rv:=by
 obtain ⟨qs,h1,h2,h3,h4⟩:=h
 refine ⟨qs,h1,own_base (own_at h2 (fun k hk'=>hk k (h2.lt k hk').1 (h2.lt k hk').2)) hb,⟨fun q hq=>own_base (own_at (h3.1 q hq) (fun k hk'=>hk k ((h3.1 q hq).lt k hk').1 ((h3.1 q hq).lt k hk').2)) hb,h3.2⟩,h4⟩
theorem sel_done {lo:Nat}{w w1:World}{M:Nat->Prop}{b:Nat}{lay:List Lay}{D:Pl.DB}{rows:List (List Pl.V)}{rv:Value}(h:DbW w M b lay D)(hb:Below (w.heap.size+1) (w.alloc boxO) w1)(ho:OutW (w.heap.size+1) w1 M M rows rv) :
 w1.heap[w.heap.size]?=some boxO/\∀ w'',But w.heap.size w1 w''->PostDo lo w M b (D,⟨rows,0,0⟩) (.returned (.tuple #[.agg #[rv,.int .i64 0],.int .i64 0])) w'':=by
 have hnb:¬ M w.heap.size:=fun hm=>by have:=h.lt _ hm;omega
 have hx:=(hb.block _ (by omega)).trans (blk_new w boxO)
 have hz:=hb.size
 simp at hz
 refine ⟨hx,fun w'' hs=>⟨rv,M,lay,rfl,⟨h.keep (by rw [hs.size];omega) (fun k hk=>?_),fun k hk=>hk,fun k hk=>.inl hk,hs.os.trans hb.os,hs.tape.trans hb.tape,hs.output.trans hb.output,by rw [hs.size];omega,fun k hk=>?_⟩,?_⟩⟩
 ·have:=h.lt k hk
  rw [hs.block k (by omega),hb.block k (by omega),Below.heap_alloc _ _ _ this]
 ·have:=hk.1
  rw [hs.block k (by omega),hb.block k (by omega),Below.heap_alloc _ _ _ this]
 ·exact ho.keep (fun k hk _=>hs.block k (by omega)) (by omega)
theorem sel_err {lo:Nat}{w w1:World}{M:Nat->Prop}{b:Nat}{lay:List Lay}{D:Pl.DB}{er:Nat}(h:DbW w M b lay D)(hb:Below (w.heap.size+1) (w.alloc boxO) w1) :
 w1.heap[w.heap.size]?=some boxO/\∀ w'',But w.heap.size w1 w''->PostDo lo w M b (D,Pl.no er) (.returned (.tuple #[.agg #[.slice none 0 0,.int .i64 0],.int .i64 (er:Nat)])) w'':=by
 have h0:=sel_done (lo:=lo) (rows:=[]) (rv:=.slice none 0 0) h hb (OutW.nil _ _ _ _)
 refine ⟨h0.1,fun w'' hs=>?_⟩
 obtain ⟨rv,M',lay',h1,h2,h3⟩:=h0.2 w'' hs
 exact ⟨_,M',lay',rfl,h2,OutW.nil _ _ _ _⟩
theorem doSt_err (D:Pl.DB)(s:Pl.St):(Pl.doSt D s).2.err≠0->(Pl.doSt D s).2.rows=[]/\(Pl.doSt D s).2.count=0:=by
 unfold Pl.doSt Pl.doCreate Pl.doInsert Pl.doDelete Pl.doUpdate Pl.doSelect
 repeat' split
 all_goals first
  | exact fun _=>⟨rfl,rfl⟩
  | exact fun h=>absurd rfl h
structure Live (w:World)(M:Nat->Prop)(b:Nat)(lay:List Lay)(D:Pl.DB):Prop where
 ex:ExIn w M b lay D
 spell:SpellAt w
 err:ErrAt w
 gs:¬ M 1
 ge:¬ M 8
 pow:PowAt w
 gp:¬ M 5
theorem SpellAt.same {w w':World}(h:SpellAt w)(hk:w'.heap[1]?=w.heap[1]?):SpellAt w':=fun k hk'=>by
 rw [World.cell?_of_block hk];exact h k hk'
theorem ErrAt.same {w w':World}(h:ErrAt w)(hk:w'.heap[8]?=w.heap[8]?):ErrAt w':=by
 obtain ⟨te,pe,hc⟩:=h
 exact ⟨te,pe,by rw [World.cell?_of_block hk];exact hc⟩
theorem ErrAt.lt {w:World}(h:ErrAt w) : 8<w.heap.size:=by
 obtain ⟨te,pe,hc⟩:=h
 exact lt_of_cell hc
theorem Live.below {w w':World}{M:Nat->Prop}{b:Nat}{lay:List Lay}{D:Pl.DB}(h:Live w M b lay D)(hb:Below w.heap.size w w'):Live w' M b lay D :=
 ⟨h.ex.below hb,h.spell.below hb,h.err.below hb,h.gs,h.ge,h.pow.keep (hb.block _ h.pow.lt),h.gp⟩
theorem Live.step {w w':World}{M M':Nat->Prop}{b:Nat}{lay lay':List Lay}{D D':Pl.DB}(h:Live w M b lay D)(hs:DbStep w.heap.size w M b D' w' M' lay'):Live w' M' b lay' D':=by
 have hn:∀ k,k<w.heap.size->¬ M k->¬ M' k:=fun k hk hm hm'=>by
  rcases hs.new k hm' with h1|h1
  ·exact hm h1
  ·omega
 exact ⟨⟨hs.db,h.ex.rules.keep (hs.keep.block _ ⟨h.ex.glob.2,h.ex.glob.1⟩),hn _ h.ex.glob.2 h.ex.glob.1,Nat.lt_of_lt_of_le h.ex.glob.2 hs.keep.size⟩,h.spell.same (hs.keep.block _ ⟨h.spell.lt,h.gs⟩),h.err.same (hs.keep.block _ ⟨h.err.lt,h.ge⟩),hn _ h.spell.lt h.gs,hn _ h.err.lt h.ge,h.pow.keep (hs.keep.block _ ⟨h.pow.lt,h.gp⟩),hn _ h.pow.lt h.gp⟩
def PostEx (w:World)(M:Nat->Prop)(b:Nat)(o:Pl.DB × Pl.Ans)(e:Ending)(w':World):Prop:=PostDo w.heap.size w M b o e w'
theorem exec_some {D:Pl.DB}{l:List UInt8}{s:Pl.St}(h:Pl.pParse l=some s):Pl.exec D l=Pl.doSt D s:=by unfold Pl.exec;rw [h]
theorem exec_none {D:Pl.DB}{l:List UInt8}(h:Pl.pParse l=none):Pl.exec D l=(D,Pl.no 1):=by unfold Pl.exec;rw [h]
theorem ex_none {w w1:World}{M:Nat->Prop}{b:Nat}{lay:List Lay}{D:Pl.DB}(h:DbW w M b lay D)(hb:Below (w.heap.size+1) (w.alloc boxO) w1):w1.heap[w.heap.size]?=some boxO/\∀ w'',But w.heap.size w1 w''->PostEx w M b (D,Pl.no 1) (.returned (.tuple #[.agg #[.slice none 0 0,.int .i64 0],.int .i64 1])) w'' :=
 sel_err (lo:=w.heap.size) (er:=1) h hb
theorem ex_done {w w1 w2 w3:World}{o8:Obj}{M M':Nat->Prop}{b:Nat}{lay lay':List Lay}{D:Pl.DB}{o:Pl.DB × Pl.Ans}(h:DbW w M b lay D)(hb:Below (w.heap.size+1) (w.alloc boxO) w1)(hs:DbStep (w.heap.size+1) w1 M b o.1 w2 M' lay')(h3:But w.heap.size w2 w3):DbStep w.heap.size w M b o.1 (w3.alloc o8) M' lay':=by
 have hz1:=hb.size
 have hz2:=hs.keep.size
 simp at hz1
 have hnb:¬ M w.heap.size:=fun hm=>by have:=h.lt _ hm;omega
 have hnb':¬ M' w.heap.size:=fun hm=>by
  rcases hs.new _ hm with h'|h'
  ·exact hnb h'
  ·omega
 have hz3:=h3.size
 have hk:∀ k,k≠w.heap.size->k<w2.heap.size->(w3.alloc o8).heap[k]?=w2.heap[k]?:=fun k hk hk2=>by
  rw [Below.heap_alloc _ _ _ (by omega),h3.block k hk]
 refine ⟨hs.db.keep (by simp;omega) (fun k hm=>hk k (fun e=>hnb' (e ▸ hm)) (hs.db.lt k hm)),hs.sub,fun k hk=>(hs.new k hk).imp id (fun h=>by omega),h3.os.trans (hs.keep.os.trans hb.os),h3.tape.trans (hs.keep.tape.trans hb.tape),h3.output.trans (hs.keep.output.trans hb.output),by simp;omega,fun k hk'=>?_⟩
 have:=hk'.1
 rw [hk k (by omega) (by omega),hs.keep.block k ⟨by omega,hk'.2⟩,hb.block k (by omega),Below.heap_alloc _ _ _ this]
theorem ex_box {w w1 w2:World}{M M':Nat->Prop}{b:Nat}{lay lay':List Lay}{D D':Pl.DB}{lo:Nat}(h:DbW w M b lay D)(hb:Below (w.heap.size+1) (w.alloc boxO) w1)(hs:DbStep lo w1 M b D' w2 M' lay'):w2.heap[w.heap.size]?=some boxO:=by
 have hz1:=hb.size
 simp at hz1
 have hnb:¬ M w.heap.size:=fun hm=>by have:=h.lt _ hm;omega
 rw [hs.keep.block _ ⟨by omega,hnb⟩,hb.block _ (by omega),blk_new]
theorem OutW.slice {base:Nat}{w:World}{M M':Nat->Prop}{rows:List (List Pl.V)}{rv:Value}(h:OutW base w M M' rows rv):∃ a c,rv=.slice a rows.length c:=by
 obtain ⟨qs,h1,h2,_⟩:=h
 obtain ⟨a,c,h⟩:=own_slice1 h2
 exact ⟨a,c,by rw [h,h1,List.length_map]⟩
structure Stp (w:World)(M:Nat->Prop)(w':World)(M':Nat->Prop):Prop where
 keep:KP (fun k=>k<w.heap.size/\¬ M k) w w'
 new:∀ k,M' k->M k\/w.heap.size<=k
theorem Stp.below {w w':World}(M:Nat->Prop)(hb:Below w.heap.size w w'):Stp w M w' M:=⟨⟨hb.os,hb.tape,hb.output,hb.size,fun k hk=>hb.block k hk.1⟩,fun k hk=>.inl hk⟩
theorem Stp.not {w w':World}{M M':Nat->Prop}(h:Stp w M w' M'){k:Nat}(hk:k<w.heap.size)(hm:¬ M k):¬ M' k:=fun hm'=>by
 rcases h.new k hm' with h1|h1
 ·exact hm h1
 ·omega
theorem Stp.trans {a b c:World}{A B C:Nat->Prop}(h:Stp a A b B)(k:Stp b B c C):Stp a A c C:=by
 have hz:=h.keep.size
 refine ⟨⟨k.keep.os.trans h.keep.os,k.keep.tape.trans h.keep.tape,k.keep.output.trans h.keep.output,Nat.le_trans hz k.keep.size,fun i hi=>(k.keep.block i ⟨by omega,h.not hi.1 hi.2⟩).trans (h.keep.block i hi)⟩,fun i hi=>?_⟩
 rcases k.new i hi with h1|h1
 ·exact h.new i h1
 ·exact .inr (by omega)
abbrev worldO (came:Nat)(psv ov o3:Value):Obj:=.cells #[.int .i64 (came:Nat),.bool false,.slice none 0 0,.slice none 0 0,psv,.slice none 0 0,.slice none 0 0,ov,o3] 66
structure LawM (w:World)(F:Nat->Prop)(wb came:Nat)(psv ov o3:Value)(n:Nat)(gs:List Value):Prop where
 box:w.heap[wb]?=some (worldO came psv ov o3)
 outs:w.ownsRow 0 29 1 ov n (List.replicate n (.slice none 0 0))
 three:w.ownsRow 0 29 1 o3 gs.length gs
 apart:∀ k,ov.ownBlock=some k->o3.ownBlock≠some k
 fix:∀ k,F k->k<w.heap.size/\k≠wb/\ov.ownBlock≠some k/\o3.ownBlock≠some k
 full:∀ (j:Nat) (g:Value),gs[j]?=some g->FullO w F g (-1 - ((j / 3:Nat):Int))
def LSet (wb:Nat)(F:Nat->Prop)(ov o3:Value):Nat->Prop:=fun k=>k=wb\/F k\/ov.ownBlock=some k\/o3.ownBlock=some k
theorem FullO.keep {w w':World}{F F':Nat->Prop}{g:Value}{kind:Int}(h:FullO w F g kind)(hF:∀ k,F k->F' k)(hs:w.heap.size<=w'.heap.size)(hk:∀ k,F k->w'.heap[k]?=w.heap[k]?):FullO w' F' g kind:=by
 obtain ⟨a,m,c,rfl,hm,h2⟩:=h
 refine ⟨a,m,c,rfl,hm,fun h0=>?_⟩
 obtain ⟨b,rfl,hb,hL,h3⟩:=h2 h0
 refine ⟨b,rfl,by omega,hF b hL,fun i hi=>?_⟩
 obtain ⟨q,qc,e0,hq,hLq,e1⟩:=h3 i hi
 exact ⟨q,qc,by rw [World.cell?_of_block (hk b hL)];exact e0,by omega,hF q hLq,by rw [World.cell?_of_block (hk q hLq)];exact e1⟩
theorem LawM.keep {w w':World}{F:Nat->Prop}{wb came:Nat}{psv ov o3:Value}{n:Nat}{gs:List Value}(h:LawM w F wb came psv ov o3 n gs)(hs:w.heap.size<=w'.heap.size)(hk:∀ k,LSet wb F ov o3 k->w'.heap[k]?=w.heap[k]?):LawM w' F wb came psv ov o3 n gs :=
 ⟨(hk wb (.inl rfl)).trans h.box,own_at h.outs (fun k e=>hk k (.inr (.inr (.inl e)))),own_at h.three (fun k e=>hk k (.inr (.inr (.inr e)))),h.apart,fun k hF=>⟨by have:=(h.fix k hF).1;omega,(h.fix k hF).2⟩,fun j g hg=>(h.full j g hg).keep (fun k h=>h) hs (fun k hF=>hk k (.inr (.inl hF)))⟩
theorem LawM.lt {w:World}{F:Nat->Prop}{wb came:Nat}{psv ov o3:Value}{n:Nat}{gs:List Value}(h:LawM w F wb came psv ov o3 n gs){k:Nat}(hk:LSet wb F ov o3 k):k<w.heap.size:=by
 rcases hk with rfl|hk|hk|hk
 ·exact lB h.box
 ·exact (h.fix k hk).1
 ·exact (h.outs.lt k hk).2
 ·exact (h.three.lt k hk).2
theorem LawM.below {w w':World}{F:Nat->Prop}{wb came:Nat}{psv ov o3:Value}{n:Nat}{gs:List Value}(h:LawM w F wb came psv ov o3 n gs)(hb:Below w.heap.size w w'):LawM w' F wb came psv ov o3 n gs :=
 h.keep hb.size (fun k hk=>hb.block k (h.lt hk))
theorem LawM.nw {w:World}{F:Nat->Prop}{wb came:Nat}{psv ov o3:Value}{n:Nat}{gs:List Value}(h:LawM w F wb came psv ov o3 n gs):ov.ownBlock≠some wb/\o3.ownBlock≠some wb:=by
 constructor
 ·intro e
  obtain ⟨C,m,hc⟩:=own_ty h.outs e
  exact ty_ne hc h.box (by decide) rfl
 ·intro e
  obtain ⟨C,m,hc⟩:=own_ty h.three e
  exact ty_ne hc h.box (by decide) rfl
theorem LawM.push7 {w:World}{F:Nat->Prop}{wb came:Nat}{psv ov o3:Value}{n:Nat}{gs:List Value}(h:LawM w F wb came psv ov o3 n gs){o:Obj}{w4:World}{v':Value}(hown:w4.ownsRow 0 29 1 v' (n+1) (List.replicate n (.slice none 0 0)++[.slice none 0 0]))(hg:(w.alloc o).grownBy w4 ov.ownBlock)(ho:v'.ownBlock=ov.ownBlock\/v'.ownBlock=some (w.heap.size+1)) :
 w4.heap[wb]?=some (worldO came psv ov o3)/\LawM (w4.setCell ⟨wb,7,none⟩ v') F wb came psv v' o3 (n+1) gs/\Stp w (LSet wb F ov o3) (w4.setCell ⟨wb,7,none⟩ v') (LSet wb F v' o3)/\∀ k,F k->(w4.setCell ⟨wb,7,none⟩ v').heap[k]?=w.heap[k]?:=by
 have hz:w.heap.size+1<=w4.heap.size:=by have:=hg.size;simpa using this
 have hk4:∀ k,k<w.heap.size->ov.ownBlock≠some k->w4.heap[k]?=w.heap[k]?:=fun k hk hne=>by
  rw [hg.block k (by simp;omega) (fun e=>hne e.symm),Below.heap_alloc _ _ _ hk]
 have hbx:=(hk4 wb (lB h.box) h.nw.1).trans h.box
 have hvw:v'.ownBlock≠some wb:=fun e=>by
  rcases ho with h0|h0
  ·rw [h0] at e;exact h.nw.1 e
  ·rw [h0] at e;cases e;have:=lB h.box;omega
 have hFk:∀ k,F k->(w4.setCell ⟨wb,7,none⟩ v').heap[k]?=w.heap[k]?:=fun k hF=>by
  obtain ⟨f1,f2,f3,f4⟩:=h.fix k hF
  rw [Below.heap_setCell _ _ _ _ f2]
  exact hk4 k f1 f3
 refine ⟨hbx,⟨?_,?_,?_,?_,?_,?_⟩,⟨⟨hg.os,hg.tape,hg.output,?_,?_⟩,?_⟩,hFk⟩
 ·have:=bS hbx 7 v'
  simpa using this
 ·rw [show n+1=n+1 from rfl,List.replicate_succ']
  exact own_at hown (fun k hk=>Below.heap_setCell _ _ _ _ (fun e=>hvw (by have e':k=wb:=e;rw [<- e'];exact hk)))
 ·refine own_at h.three (fun k hk=>?_)
  rw [Below.heap_setCell _ _ _ _ (fun e=>h.nw.2 (by have e':k=wb:=e;rw [<- e'];exact hk))]
  exact hk4 k (h.three.lt k hk).2 (fun e=>h.apart k e hk)
 ·intro k hk hk3
  rcases ho with h0|h0
  ·rw [h0] at hk;exact h.apart k hk hk3
  ·rw [h0] at hk;cases hk
   have:=(h.three.lt _ hk3).2
   omega
 ·intro k hF
  obtain ⟨f1,f2,f3,f4⟩:=h.fix k hF
  refine ⟨by rw [size_set];omega,f2,fun e=>?_,f4⟩
  rcases ho with h0|h0
  ·rw [h0] at e;exact f3 e
  ·rw [h0] at e;cases e;omega
 ·intro j g hg'
  refine (h.full j g hg').keep (fun k h=>h) (by rw [size_set];omega) (fun k hF=>?_)
  obtain ⟨f1,f2,f3,f4⟩:=h.fix k hF
  rw [Below.heap_setCell _ _ _ _ f2]
  exact hk4 k f1 f3
 ·rw [size_set];omega
 ·intro k hk
  have h1:k≠wb:=fun e=>hk.2 (.inl e)
  have h2:ov.ownBlock≠some k:=fun e=>hk.2 (.inr (.inr (.inl e)))
  rw [Below.heap_setCell _ _ _ _ h1]
  exact hk4 k hk.1 h2
 ·intro k hk
  rcases hk with h1|h1|h1|h1
  ·exact .inl (.inl h1)
  ·exact .inl (.inr (.inl h1))
  ·rcases ho with h0|h0
   ·rw [h0] at h1;exact .inl (.inr (.inr (.inl h1)))
   ·rw [h0] at h1;cases h1;exact .inr (by omega)
  ·exact .inl (.inr (.inr (.inr h1)))
theorem LawM.push8 {w:World}{F:Nat->Prop}{wb came:Nat}{psv ov o3:Value}{n:Nat}{gs:List Value}(h:LawM w F wb came psv ov o3 n gs){o:Obj}{w4:World}{v' g:Value}(hown:w4.ownsRow 0 29 1 v' (gs.length+1) (gs++[g]))(hg:(w.alloc o).grownBy w4 o3.ownBlock)(ho:v'.ownBlock=o3.ownBlock\/v'.ownBlock=some (w.heap.size+1))(hf:FullO w F g (-1 - ((gs.length / 3:Nat):Int))) :
 w4.heap[wb]?=some (worldO came psv ov o3)/\LawM (w4.setCell ⟨wb,8,none⟩ v') F wb came psv ov v' n (gs++[g])/\Stp w (LSet wb F ov o3) (w4.setCell ⟨wb,8,none⟩ v') (LSet wb F ov v')/\∀ k,F k->(w4.setCell ⟨wb,8,none⟩ v').heap[k]?=w.heap[k]?:=by
 have hz:w.heap.size+1<=w4.heap.size:=by have:=hg.size;simpa using this
 have hk4:∀ k,k<w.heap.size->o3.ownBlock≠some k->w4.heap[k]?=w.heap[k]?:=fun k hk hne=>by
  rw [hg.block k (by simp;omega) (fun e=>hne e.symm),Below.heap_alloc _ _ _ hk]
 have hbx:=(hk4 wb (lB h.box) h.nw.2).trans h.box
 have hvw:v'.ownBlock≠some wb:=fun e=>by
  rcases ho with h0|h0
  ·rw [h0] at e;exact h.nw.2 e
  ·rw [h0] at e;cases e;have:=lB h.box;omega
 have hFk:∀ k,F k->(w4.setCell ⟨wb,8,none⟩ v').heap[k]?=w.heap[k]?:=fun k hF=>by
  obtain ⟨f1,f2,f3,f4⟩:=h.fix k hF
  rw [Below.heap_setCell _ _ _ _ f2]
  exact hk4 k f1 f4
 refine ⟨hbx,⟨?_,?_,?_,?_,?_,?_⟩,⟨⟨hg.os,hg.tape,hg.output,?_,?_⟩,?_⟩,hFk⟩
 ·have:=bS hbx 8 v'
  simpa using this
 ·refine own_at h.outs (fun k hk=>?_)
  rw [Below.heap_setCell _ _ _ _ (fun e=>h.nw.1 (by have e':k=wb:=e;rw [<- e'];exact hk))]
  exact hk4 k (h.outs.lt k hk).2 (h.apart k hk)
 ·simp only [List.length_append,List.length_singleton]
  exact own_at hown (fun k hk=>Below.heap_setCell _ _ _ _ (fun e=>hvw (by have e':k=wb:=e;rw [<- e'];exact hk)))
 ·intro k hk hk3
  rcases ho with h0|h0
  ·rw [h0] at hk3;exact h.apart k hk hk3
  ·rw [h0] at hk3;cases hk3
   have:=(h.outs.lt _ hk).2
   omega
 ·intro k hF
  obtain ⟨f1,f2,f3,f4⟩:=h.fix k hF
  refine ⟨by rw [size_set];omega,f2,f3,fun e=>?_⟩
  rcases ho with h0|h0
  ·rw [h0] at e;exact f4 e
  ·rw [h0] at e;cases e;omega
 ·intro j g' hg'
  by_cases hj:j<gs.length
  ·rw [List.getElem?_append_left hj] at hg'
   exact (h.full j g' hg').keep (fun k h=>h) (by rw [size_set];omega) hFk
  ·have hj2:j=gs.length:=by have:=getElem?_lt hg';simp at this;omega
   subst hj2
   simp at hg'
   subst hg'
   exact hf.keep (fun k h=>h) (by rw [size_set];omega) hFk
 ·rw [size_set];omega
 ·intro k hk
  have h1:k≠wb:=fun e=>hk.2 (.inl e)
  have h2:o3.ownBlock≠some k:=fun e=>hk.2 (.inr (.inr (.inr e)))
  rw [Below.heap_setCell _ _ _ _ h1]
  exact hk4 k hk.1 h2
 ·intro k hk
  rcases hk with h1|h1|h1|h1
  ·exact .inl (.inl h1)
  ·exact .inl (.inr (.inl h1))
  ·exact .inl (.inr (.inr (.inl h1)))
  ·rcases ho with h0|h0
   ·rw [h0] at h1;exact .inl (.inr (.inr (.inr h1)))
   ·rw [h0] at h1;cases h1;exact .inr (by omega)
theorem own_cell' {w:World}{base:Nat}{e:TypeId}{size n:Nat}{v:Value}{xs:List Value}(h:w.ownsRow base e size v n xs){j:Nat}{u:Value}(hj:xs[j]?=some u):∃ g cap,v=.slice (some ⟨g,0,none⟩) n cap/\base<=g/\g<w.heap.size/\w.cell? ⟨g,j,none⟩=some u:=by
 rcases h.2 with ⟨rfl,h0⟩|⟨g,cap,cur,rfl,hb,hg,hc,hm,hs,ht⟩
 ·have:=h.1
  rw [h0] at this
  simp at this
  subst this
  simp at hj
 ·refine ⟨g,cap,rfl,hb,lB hg,?_⟩
  rw [<- ht,List.getElem?_take] at hj
  split at hj
  ·rw [bC hg];simpa using hj
  ·cases hj
theorem Tryz.infoMat:(Tryz.prog.info? 29).map (fun i=>(i.zero,i.size,i.bytes))=some (some (.slice none 0 0),1,24):=by kernel_rfl
theorem LawM.more {w0 w:World}{F:Nat->Prop}{wb came:Nat}{psv ov o3:Value}{n:Nat}{gs:List Value}(h0:LawM w0 F wb came psv ov o3 n gs)(h:LawM w F wb came psv ov o3 n gs):LawM w (fun k=>F k\/(w0.heap.size<=k/\k<w.heap.size)) wb came psv ov o3 n gs :=
 ⟨h.box,h.outs,h.three,h.apart,fun k hk=>by
  rcases hk with hk|hk
  ·exact h.fix k hk
  ·refine ⟨hk.2,fun e=>?_,fun e=>?_,fun e=>?_⟩
   ·have:=lB h0.box;omega
   ·have:=(h0.outs.lt k e).2;omega
   ·have:=(h0.three.lt k e).2;omega,fun j g hg=>(h.full j g hg).keep (fun k hk=>.inl hk) (Nat.le_refl _) (fun k _=>rfl)⟩
theorem full_of {w:World}{F:Nat->Prop}{base m:Nat}{v:Value}{mb:Nat}{kind:Int}{C:Array Value}{T:TypeId}(hm:m<=3)(h:w.ownsRow base 32 1 v m (List.replicate m (.slice (some ⟨mb,0,none⟩) 1 1)))(hb:w.heap[mb]?=some (.cells C T))(hc:C[0]?=some (.int .i64 kind))(hF:F mb)(hFv:∀ k,v.ownBlock=some k->F k):FullO w F v kind:=by
 obtain ⟨a,c,rfl,_⟩:=own_cap h
 refine ⟨a,m,c,rfl,hm,fun h0=>?_⟩
 obtain ⟨g,_,e,_,hg,_⟩:=own_cell' h (j:=0) (u:=.slice (some ⟨mb,0,none⟩) 1 1) (by rw [List.getElem?_replicate];simp [h0])
 cases e
 refine ⟨g,rfl,hg,hFv g rfl,fun i hi=>?_⟩
 obtain ⟨g',_,e,_,_,hcell⟩:=own_cell' h (j:=i) (u:=.slice (some ⟨mb,0,none⟩) 1 1) (by rw [List.getElem?_replicate];simp [hi])
 cases e
 exact ⟨mb,1,hcell,lB hb,hF,by rw [bC hb];exact hc⟩
def PostMk (w:World)(F:Nat->Prop)(wb came:Nat)(psv ov o3:Value)(n:Nat)(gs:List Value)(e:Ending)(w':World):Prop :=
 e=.returned (.tuple #[])/\∃ F' ov' o3' gs',LawM w' F' wb came psv ov' o3' (n+1) gs'/\gs'.length=gs.length+3/\Stp w (LSet wb F ov o3) w' (LSet wb F' ov' o3')
theorem marksN (w:World)(F:Nat->Prop)(wb came:Nat)(psv ov o3:Value)(n:Nat)(gs:List Value)(h:LawM w F wb came psv ov o3 n gs)(hn:n<=100000000)(hgs:gs.length=3*n) :
 Calls Tryz.prog 140 #[.pointer (some ⟨wb,0,none⟩),.slice none 0 0] w (PostMk w F wb came psv ov o3 n gs):=by
 obtain ⟨oa,oc,rfl,_⟩:=own_cap h.outs
 obtain ⟨ta,tc,rfl,_⟩:=own_cap h.three
 have HX:=Z h
 have hbx:=h.box
 have hbz:=lB hbx
 have b7:=bC hbx 7
 simp at b7
 obtain ⟨i0,hi,hz0,hz1,hz2⟩:=info_parts Tryz.infoRow
 obtain ⟨j0,hj,hy0,hy1,hy2⟩:=info_parts Tryz.infoMat
 have HGs:=Z hgs
 have hgl:gs.length<=300000000:=by omega
 clear h hbx hgs
 go_enter Tryz.func140,Tryz.ntmps140
 go_wp2_with fail
 go_loop [4] (fun b=>b=.int .i64 0) (fun _=>0)
 case atStart=>rfl
 case round =>
  obtain rfl:=hrel
  go_wp2_with fail
  go_loop [6] (fun b=>b=.int .i64 0) (fun _=>0)
  case atStart=>rfl
  case round =>
   obtain rfl:=hrel
   have hbm:Below w.heap.size w (w.alloc (.cells #[.int .i64 (-1 - (n:Int)),.int .i64 0,.string ⟨#[]⟩] 34)):=(Below.refl _ _).alloc (Nat.le_refl _) _
   have hmk:=blk_new w (.cells #[.int .i64 (-1 - (n:Int)),.int .i64 0,.string ⟨#[]⟩] 34)
   generalize w.alloc (.cells #[.int .i64 (-1 - (n:Int)),.int .i64 0,.string ⟨#[]⟩] 34)=wm at *
   have hzm:=lB hmk
   have HBm:=Z hbm
   have HMk:=Z hmk
   clear hbm hmk b7
   go_wp2_with (at_builtin;refine wpList_append_own_at _ rfl (.tmp 40) (.tmp 42) 29 rfl wm.heap.size 32 i0 _ 1 24 Tryz.underlying29 hi hz0 hz1 hz2 rfl (by decide) _ _ _ rfl (World.ownsRow_nil _ _ _ _) ⟨wm.heap.size,0,none⟩ 1 1 [.slice (some ⟨w.heap.size,0,none⟩) 1 1] rfl rfl ?c1 ?c2 ?c3 ?c4 ?c5 ?_)
   try (case c1=>exact news_at wm [.slice (some ⟨w.heap.size,0,none⟩) 1 1] 32)
   try (case c2=>first|rfl|(intro x hx;simp at hx;subst hx;rfl)|(simp;done))
   try (case c3=>first|(unfold maxLen;omega)|omega|decide|(simp [maxLen];done))
   try (case c4=>omega)
   try (case c5=>simp)
   intro v1 w1 hown1 hg1 _ _
   have hb1:Below wm.heap.size wm w1:=below_grown ((Below.refl _ _).alloc (Nat.le_refl _) _) hg1 (fun k hk=>by cases hk) (by simp)
   obtain ⟨a1,n1,c1,rfl⟩:=own_slice hown1
   have HO1:=Z hown1
   have HB1:=Z hb1
   have hz1':=hb1.size
   clear hown1 hg1 hb1
   go_wp2_with (at_builtin;refine wpList_append_own_at _ rfl (.tmp 44) (.tmp 47) 29 rfl w1.heap.size 32 i0 _ 1 24 Tryz.underlying29 hi hz0 hz1 hz2 rfl (by decide) _ _ _ rfl (World.ownsRow_nil _ _ _ _) ⟨w1.heap.size,0,none⟩ 2 2 [.slice (some ⟨w.heap.size,0,none⟩) 1 1,.slice (some ⟨w.heap.size,0,none⟩) 1 1] rfl rfl ?d1 ?d2 ?d3 ?d4 ?d5 ?_)
   try (case d1=>exact news_at w1 [.slice (some ⟨w.heap.size,0,none⟩) 1 1,.slice (some ⟨w.heap.size,0,none⟩) 1 1] 32)
   try (case d2=>first|rfl|(intro x hx;simp at hx;subst hx;rfl)|(simp;done))
   try (case d3=>first|(unfold maxLen;omega)|omega|decide|(simp [maxLen];done))
   try (case d4=>omega)
   try (case d5=>simp)
   intro v2 w2 hown2 hg2 _ _
   have hb2:Below w1.heap.size w1 w2:=below_grown ((Below.refl _ _).alloc (Nat.le_refl _) _) hg2 (fun k hk=>by cases hk) (by simp)
   obtain ⟨a2,n2,c2,rfl⟩:=own_slice hown2
   have HO2:=Z hown2
   have HB2:=Z hb2
   have hz2':=hb2.size
   clear hown2 hg2 hb2
   go_wp2_with (at_builtin;refine wpList_append_own_at _ rfl (.tmp 49) (.tmp 53) 29 rfl w2.heap.size 32 i0 _ 1 24 Tryz.underlying29 hi hz0 hz1 hz2 rfl (by decide) _ _ _ rfl (World.ownsRow_nil _ _ _ _) ⟨w2.heap.size,0,none⟩ 3 3 [.slice (some ⟨w.heap.size,0,none⟩) 1 1,.slice (some ⟨w.heap.size,0,none⟩) 1 1,.slice (some ⟨w.heap.size,0,none⟩) 1 1] rfl rfl ?f1 ?f2 ?f3 ?f4 ?f5 ?_)
   try (case f1=>exact news_at w2 [.slice (some ⟨w.heap.size,0,none⟩) 1 1,.slice (some ⟨w.heap.size,0,none⟩) 1 1,.slice (some ⟨w.heap.size,0,none⟩) 1 1] 32)
   try (case f2=>first|rfl|(intro x hx;simp at hx;subst hx;rfl)|(simp;done))
   try (case f3=>first|(unfold maxLen;omega)|omega|decide|(simp [maxLen];done))
   try (case f4=>omega)
   try (case f5=>simp)
   intro v3 w3 hown3 hg3 _ _
   have hb3:Below w2.heap.size w2 w3:=below_grown ((Below.refl _ _).alloc (Nat.le_refl _) _) hg3 (fun k hk=>by cases hk) (by simp)
   obtain ⟨a3,n3,c3,rfl⟩:=own_slice hown3
   have hz3':=hb3.size
   have hB12:Below w1.heap.size w1 w3:=HB2.out.trans (hb3.mono hz2')
   have hBm3:Below wm.heap.size wm w3:=HB1.out.trans (hB12.mono hz1')
   have hB03:Below w.heap.size w w3:=HBm.out.trans (hBm3.mono HBm.out.size)
   have hmk3:=bB hBm3 hzm HMk.out
   have hX3:=HX.out.more (HX.out.below hB03)
   have HFu1:Hid (FullO w3 (fun k=>F k\/(w.heap.size<=k/\k<w3.heap.size)) (.slice a1 n1 c1) (-1 - (n:Int))):=full_of (by omega) (own_below hB12 HO1.out) hmk3 rfl (.inr ⟨Nat.le_refl _,lB hmk3⟩) (fun k hk=>.inr ⟨by have:=(HO1.out.lt k hk).1;have:=HBm.out.size;omega,by have:=(HO1.out.lt k hk).2;omega⟩)
   have HFu2:Hid (FullO w3 (fun k=>F k\/(w.heap.size<=k/\k<w3.heap.size)) (.slice a2 n2 c2) (-1 - (n:Int))):=full_of (by omega) (own_below hb3 HO2.out) hmk3 rfl (.inr ⟨Nat.le_refl _,lB hmk3⟩) (fun k hk=>.inr ⟨by have:=(HO2.out.lt k hk).1;have:=HBm.out.size;omega,by have:=(HO2.out.lt k hk).2;omega⟩)
   have HFu3:Hid (FullO w3 (fun k=>F k\/(w.heap.size<=k/\k<w3.heap.size)) (.slice a3 n3 c3) (-1 - (n:Int))):=full_of (by omega) hown3 hmk3 rfl (.inr ⟨Nat.le_refl _,lB hmk3⟩) (fun k hk=>.inr ⟨by have:=(hown3.lt k hk).1;have:=HBm.out.size;omega,(hown3.lt k hk).2⟩)
   have E0:Hid (-1 - ((gs.length / 3:Nat):Int)=-1 - (n:Int)):=by unfold Hid;rw [HGs.out];omega
   have hB03':=Z hB03
   clear hown3 hg3 hb3 hB12 hBm3 hB03 hmk3 HMk HBm HO1 HB1 HO2 HB2 HX
   have qp:=bC hX3.box 7
   simp at qp
   have zp:=lB hX3.box
   have Hp:=Z hX3
   clear hX3
   go_wp2_with (at_builtin;refine wpList_append_own_at _ rfl (.tmp 59) (.tmp 61) 56 rfl 0 29 j0 _ 1 24 Tryz.underlying56 hj hy0 hy1 hy2 rfl (by decide) _ _ _ rfl ((U Hp).outs.alloc _) ⟨w3.heap.size,0,none⟩ 1 1 [.slice none 0 0] rfl rfl ?p1 ?p2 ?p3 ?p4 ?p5 ?_)
   try (case p1=>exact news_at w3 [.slice none 0 0] 29)
   try (case p2=>first|rfl|(intro x hx;simp at hx;subst hx;rfl)|(simp;done))
   try (case p3=>first|(unfold maxLen;simp;omega)|(unfold maxLen;omega)|omega|decide|(simp [maxLen];done))
   try (case p4=>first|omega|(simp;omega))
   try (case p5=>simp)
   intro v4 w4 hown hg _ ho
   obtain ⟨hbx,hX3n,hsp,hkp⟩:=Hp.out.push7 hown hg (by simpa using ho)
   have yp:=bC hbx 7
   have yfp:=bF hbx 7
   have yzp:=lB hbx
   have y8p:=bC hbx 8
   simp at yp y8p
   obtain ⟨xap,xnp,xcp,rfl⟩:=own_slice hown
   have HSp:=Z hsp
   have HKp:=Z hkp
   have HNp:=Z hX3n
   clear hown hg ho hbx hsp hkp hX3n qp
   have hX3m:=HNp.out
   have Hq:=Z hX3m
   clear hX3m
   go_wp2_with (at_builtin;refine wpList_append_own_at _ rfl (.tmp 69) (.tmp 71) 56 rfl 0 29 j0 _ 1 24 Tryz.underlying56 hj hy0 hy1 hy2 rfl (by decide) _ _ _ rfl ((U Hq).three.alloc _) ⟨_,0,none⟩ 1 1 [.slice a1 n1 c1] rfl rfl ?q1 ?q2 ?q3 ?q4 ?q5 ?_)
   try (case q1=>first|exact news_at (w4.setCell ⟨wb,7,none⟩ (.slice xap xnp xcp)) [.slice a1 n1 c1] 29|(have hnw:=news_at (w4.setCell ⟨wb,7,none⟩ (.slice xap xnp xcp)) [.slice a1 n1 c1] 29;rw [size_set] at hnw;exact hnw))
   try (case q2=>first|rfl|(intro x hx;simp at hx;subst hx;rfl)|(simp;done))
   try (case q3=>first|(unfold maxLen;simp;omega)|(unfold maxLen;omega)|omega|decide|(simp [maxLen];done))
   try (case q4=>first|omega|(simp;omega))
   try (case q5=>simp)
   intro v6 w6 hown hg _ ho
   obtain ⟨hbx,hX3mn,hsq,hkq⟩:=Hq.out.push8 (g:=.slice a1 n1 c1) (by simpa using hown) hg (by simpa using ho) (by rw [E0.out];exact HFu1.out.keep (fun k h=>h) HSp.out.keep.size HKp.out)
   have yq:=bC hbx 8
   have yfq:=bF hbx 8
   have yzq:=lB hbx
   simp at yq
   obtain ⟨xaq,xnq,xcq,rfl⟩:=own_slice hown
   have HSq:=Z hsq
   have HKq:=Z hkq
   have HNq:=Z hX3mn
   clear hown hg ho hbx hsq hkq hX3mn
   have hX3mm:=HNq.out
   have E1:Hid (-1 - (((gs++[Value.slice a1 n1 c1]).length / 3:Nat):Int)=-1 - (n:Int)):=by unfold Hid;have:=HGs.out;simp;omega
   have HFu2':=Z (HFu2.out.keep (fun k h=>h) (Nat.le_trans HSp.out.keep.size HSq.out.keep.size) (fun k hk=>(HKq.out k hk).trans (HKp.out k hk)))
   have Hr:=Z hX3mm
   clear hX3mm
   go_wp2_with (at_builtin;refine wpList_append_own_at _ rfl (.tmp 79) (.tmp 81) 56 rfl 0 29 j0 _ 1 24 Tryz.underlying56 hj hy0 hy1 hy2 rfl (by decide) _ _ _ rfl ((U Hr).three.alloc _) ⟨_,0,none⟩ 1 1 [.slice a2 n2 c2] rfl rfl ?r1 ?r2 ?r3 ?r4 ?r5 ?_)
   try (case r1=>first|exact news_at (w6.setCell ⟨wb,8,none⟩ (.slice xaq xnq xcq)) [.slice a2 n2 c2] 29|(have hnw:=news_at (w6.setCell ⟨wb,8,none⟩ (.slice xaq xnq xcq)) [.slice a2 n2 c2] 29;rw [size_set] at hnw;exact hnw))
   try (case r2=>first|rfl|(intro x hx;simp at hx;subst hx;rfl)|(simp;done))
   try (case r3=>first|(unfold maxLen;simp;omega)|(unfold maxLen;omega)|omega|decide|(simp [maxLen];done))
   try (case r4=>first|omega|(simp;omega))
   try (case r5=>simp)
   intro v8 w8 hown hg _ ho
   obtain ⟨hbx,hX3mmn,hsr,hkr⟩:=Hr.out.push8 (g:=.slice a2 n2 c2) (by simpa using hown) hg (by simpa using ho) (by rw [E1.out];exact HFu2'.out)
   have yr:=bC hbx 8
   have yfr:=bF hbx 8
   have yzr:=lB hbx
   simp at yr
   obtain ⟨xar,xnr,xcr,rfl⟩:=own_slice hown
   have HSr:=Z hsr
   have HKr:=Z hkr
   have HNr:=Z hX3mmn
   clear hown hg ho hbx hsr hkr hX3mmn
   have hX3mmm:=HNr.out
   have E2:Hid (-1 - ((((gs++[Value.slice a1 n1 c1])++[Value.slice a2 n2 c2]).length / 3:Nat):Int)=-1 - (n:Int)):=by unfold Hid;have:=HGs.out;simp;omega
   have HFu3':=Z (HFu3.out.keep (fun k h=>h) (Nat.le_trans (Nat.le_trans HSp.out.keep.size HSq.out.keep.size) HSr.out.keep.size) (fun k hk=>(HKr.out k hk).trans ((HKq.out k hk).trans (HKp.out k hk))))
   have Hs:=Z hX3mmm
   clear hX3mmm
   go_wp2_with (at_builtin;refine wpList_append_own_at _ rfl (.tmp 89) (.tmp 91) 56 rfl 0 29 j0 _ 1 24 Tryz.underlying56 hj hy0 hy1 hy2 rfl (by decide) _ _ _ rfl ((U Hs).three.alloc _) ⟨_,0,none⟩ 1 1 [.slice a3 n3 c3] rfl rfl ?s1 ?s2 ?s3 ?s4 ?s5 ?_)
   try (case s1=>first|exact news_at (w8.setCell ⟨wb,8,none⟩ (.slice xar xnr xcr)) [.slice a3 n3 c3] 29|(have hnw:=news_at (w8.setCell ⟨wb,8,none⟩ (.slice xar xnr xcr)) [.slice a3 n3 c3] 29;rw [size_set] at hnw;exact hnw))
   try (case s2=>first|rfl|(intro x hx;simp at hx;subst hx;rfl)|(simp;done))
   try (case s3=>first|(unfold maxLen;simp;omega)|(unfold maxLen;omega)|omega|decide|(simp [maxLen];done))
   try (case s4=>first|omega|(simp;omega))
   try (case s5=>simp)
   intro v10 w10 hown hg _ ho
   obtain ⟨hbx,hX3mmmn,hss,hks⟩:=Hs.out.push8 (g:=.slice a3 n3 c3) (by simpa using hown) hg (by simpa using ho) (by rw [E2.out];exact HFu3'.out)
   have ys:=bC hbx 8
   have yfs:=bF hbx 8
   have yzs:=lB hbx
   simp at ys
   obtain ⟨xas,xns,xcs,rfl⟩:=own_slice hown
   have HSs:=Z hss
   have HKs:=Z hks
   have HNs:=Z hX3mmmn
   clear hown hg ho hbx hss hks hX3mmmn
   go_wp2_with fail
   refine bodyPost_end (v:=.tuple #[]) (by simp [results,Tryz.results140,go_sem]) rfl ⟨rfl,_,_,_,_,HNs.out,by simp,?_⟩
   have h0:Stp w (LSet wb F (.slice oa n oc) (.slice ta gs.length tc)) w3 (LSet wb (fun k=>F k\/(w.heap.size<=k/\k<w3.heap.size)) (.slice oa n oc) (.slice ta gs.length tc)):=by
    refine ⟨⟨hB03'.out.os,hB03'.out.tape,hB03'.out.output,hB03'.out.size,fun k hk=>hB03'.out.block k hk.1⟩,fun k hk=>?_⟩
    rcases hk with h1|(h1|h1)|h1|h1
    ·exact .inl (.inl h1)
    ·exact .inl (.inr (.inl h1))
    ·exact .inr h1.1
    ·exact .inl (.inr (.inr (.inl h1)))
    ·exact .inl (.inr (.inr (.inr h1)))
   exact (((h0.trans HSp.out).trans HSq.out).trans HSr.out).trans HSs.out
theorem LawM.put {w w':World}{F:Nat->Prop}{wb came came':Nat}{psv psv' ov o3:Value}{n:Nat}{gs:List Value}(h:LawM w F wb came psv ov o3 n gs)(hb:But wb w w')(hx:w'.heap[wb]?=some (worldO came' psv' ov o3)):LawM w' F wb came' psv' ov o3 n gs/\Stp w (LSet wb F ov o3) w' (LSet wb F ov o3):=by
 have hk:∀ k,k≠wb->w'.heap[k]?=w.heap[k]?:=fun k h=>hb.block k h
 refine ⟨⟨hx,own_at h.outs (fun k e=>hk k (fun e'=>h.nw.1 (by rw [<- e'];exact e))),own_at h.three (fun k e=>hk k (fun e'=>h.nw.2 (by rw [<- e'];exact e))),h.apart,fun k hF=>?_,fun j g hg=>(h.full j g hg).keep (fun k h=>h) (Nat.le_of_eq hb.size.symm) (fun k hF=>hk k (h.fix k hF).2.1)⟩,⟨⟨hb.os,hb.tape,hb.output,Nat.le_of_eq hb.size.symm,fun k hk'=>hk k (fun e=>hk'.2 (.inl e))⟩,fun k hk=>.inl hk⟩⟩
 have:=h.fix k hF
 rw [hb.size]
 exact this
theorem ent_sameRows (vs:Array Value)(w:World):(callFunc 58 vs).run Tryz.prog w=.ok (.enter 58 vs) w:=by
 have h1:(Tryz.f58.name == "runtime.NumGoroutine")=false:=by kernel_rfl
 have h2 : Tryz.f58.body.isNone=false:=by kernel_rfl
 have h1':¬ Tryz.f58.name = "runtime.NumGoroutine":=by simpa using h1
 have h2':¬ Tryz.f58.body=none:=by intro e;rw [e] at h2;cases h2
 simp [callFunc,go_sem,Tryz.func58,h1',h2']
def PostTk (w:World)(F:Nat->Prop)(wb came:Nat)(psv ov o3:Value)(n:Nat)(e:Ending)(w':World):Prop :=
 e=.returned (.tuple #[])/\∃ F' ov' o3' n' gs',LawM w' F' wb (came+1) psv ov' o3' n' gs'/\gs'.length=3*n'/\n'<=n+2/\Stp w (LSet wb F ov o3) w' (LSet wb F' ov' o3')
theorem takesN (w:World)(F:Nat->Prop)(wb came:Nat)(psv ov o3:Value)(n:Nat)(gs:List Value)(h:LawM w F wb came psv ov o3 n gs)(hn:n<=90000000)(hc:came<=90000000)(hgs:gs.length=3*n) :
 Calls Tryz.prog 89 #[.pointer (some ⟨wb,0,none⟩),.slice none 0 0] w (PostTk w F wb came psv ov o3 n):=by
 have HX:=Z h
 have hbx:=h.box
 have hbz:=lB hbx
 have b2:=bC hbx 2
 have b3:=bC hbx 3
 simp at b2 b3
 have HGs:=Z hgs
 have HSr:=Z sameRowsN
 have HCp:=Z copiedN
 clear h hbx hgs
 go_enter Tryz.func89,Tryz.ntmps89
 go_wp2_with fail
 refine ((U HCp) _).mono ?_
 rintro e w1 ⟨rfl,rfl⟩
 go_upto_region 1 with fail
 go_cut [5] (fun s5 wx=>s5=.bool true/\Hid (Below w1.heap.size w1 wx))
 case first =>
  have HCl:Hid (Calls Tryz.prog 58 #[.slice none 0 0,.slice none 0 0] w1.drew fun e w'=>∃ v,e=.returned v/\(v=.bool true/\Below w1.heap.size w1 w')):=by
   refine (HSr.out w1.drew).mono ?_
   rintro e w' ⟨rfl,rfl⟩
   exact ⟨_,rfl,rfl,(Below.refl _ _).drew⟩
  go_region_law (refine step_call2 rfl 58 (.tmp 12) (.tmp 16) _ rfl (.slice none 0 0) (.slice none 0 0) (ent_sameRows _ _) (by simp [Act.eval,Act.put]) (by simp [Act.eval,Act.put]) _ (U HCl) ?_
                 rintro v8 w8 ⟨rfl,hp8⟩
                 have HP8:=Z hp8
                 clear hp8)
  all_goals go_wp2_with fail
  all_goals go_meet
  all_goals exact ⟨rfl,HP8.out⟩
 case rest =>
  obtain ⟨rfl,HB⟩:=hcut
  have hX1:=HX.out.below HB.out
  have HM:=Z (marksN wc F wb came psv ov o3 n gs hX1 (by omega) HGs.out)
  have HS0:Hid (Stp w1 (LSet wb F ov o3) wc (LSet wb F ov o3)):=Stp.below _ HB.out
  have k2:=bC hX1.box 2
  simp at k2
  have hkz:=lB hX1.box
  clear b2 b3 hX1 hbz
  go_wp2_with fail
  refine (U HM).mono ?_
  rintro e w2 ⟨rfl,F2,ov2,o32,gs2,hL2,hg2,hs2⟩
  have HS2:=Z (HS0.out.trans hs2)
  have HL2:=Z hL2
  have HG2:=Z hg2
  clear hs2 HM k2 hkz hL2 hg2
  go_wp2_with fail
  refine ((U HSr) _).mono ?_
  rintro e w3 ⟨rfl,rfl⟩
  have hbx2:=HL2.out.box
  have m0:=bC hbx2 0
  have m1:=bC hbx2 1
  have m2:=bC hbx2 2
  have m3:=bC hbx2 3
  simp at m0 m1 m2 m3
  have f0:=bF hbx2 0
  have f1:=bF hbx2 1
  have f2:=bF hbx2 2
  have f3:=bF hbx2 3
  have hmz:=lB hbx2
  have HBx2:=Z hbx2
  clear hbx2
  go_upto_region 8 with fail
  have hBu:But wb w3 ((((w3.setCell ⟨wb,1,none⟩ (.bool false)).setCell ⟨wb,2,none⟩ (.slice none 0 0)).setCell ⟨wb,3,none⟩ (.slice none 0 0)).setCell ⟨wb,0,none⟩ (.int .i64 ((came:Int)+1))):=((((But.refl _ _).set 1 _).set 2 _).set 3 _).set 0 _
  have hbx5:=bS (bS (bS (bS HBx2.out 1 (.bool false)) 2 (.slice none 0 0)) 3 (.slice none 0 0)) 0 (.int .i64 ((came:Int)+1))
  generalize ((((w3.setCell ⟨wb,1,none⟩ (.bool false)).setCell ⟨wb,2,none⟩ (.slice none 0 0)).setCell ⟨wb,3,none⟩ (.slice none 0 0)).setCell ⟨wb,0,none⟩ (.int .i64 ((came:Int)+1)))=w5 at *
  have hbx5':w5.heap[wb]?=some (worldO (came+1) psv ov2 o32):=by simpa [worldO] using hbx5
  obtain ⟨hL5,hs5⟩:=HL2.out.put hBu hbx5'
  have HS5:=Z (HS2.out.trans hs5)
  have p0:=bC hbx5' 0
  have p2:=bC hbx5' 2
  have p3:=bC hbx5' 3
  simp at p0 p2 p3
  have g2:=bF hbx5' 2
  have g3:=bF hbx5' 3
  have hpz:=lB hbx5'
  have HBx5:=Z hbx5'
  have HL5:=Z hL5
  have hg2':gs2.length=3*(n+1):=by have:=HG2.out;have:=HGs.out;omega
  have HG2':=Z hg2'
  clear hbx5 hbx5' hs5 hBu hg2' m0 m1 m2 m3 f0 f1 f2 f3 hmz hL5
  by_cases hev:(came+1) % 2=0
  ·have hev1:((((came:Int)+1) % 2) == 0)=true:=by simp;omega
   have hev2:(Int.tmod ((came:Int)+1) 2 == 0)=true:=by rw [Int.tmod_eq_emod_of_nonneg (by omega)];exact hev1
   have HM:=Z (marksN w5 F2 wb (came+1) psv ov2 o32 (n+1) gs2 HL5.out (by omega) HG2'.out)
   clear hev
   go_wp2_with fail
   refine (U HM).mono ?_
   rintro e w6 ⟨rfl,F6,ov6,o36,gs6,hL6,hg6,hs6⟩
   have HE:Hid (PostTk w1 F wb came psv ov o3 n (.returned (.tuple #[])) w6):=⟨rfl,F6,ov6,o36,n+1+1,gs6,hL6,by have:=HG2'.out;omega,by omega,HS5.out.trans hs6⟩
   clear hL6 hg6 hs6 HM
   go_wp2_with fail
   exact bodyPost_end (v:=.tuple #[]) (by simp [results,Tryz.results89,go_sem]) rfl HE.out
  ·have hev1:((((came:Int)+1) % 2) == 0)=false:=by simp;omega
   have hev2:(Int.tmod ((came:Int)+1) 2 == 0)=false:=by rw [Int.tmod_eq_emod_of_nonneg (by omega)];exact hev1
   clear hev
   go_wp2_with fail
   refine bodyPost_end (v:=.tuple #[]) (by simp [results,Tryz.results89,go_sem]) rfl ?_
   have hBu:But wb w5 ((w5.setCell ⟨wb,2,none⟩ (.slice none 0 0)).setCell ⟨wb,3,none⟩ (.slice none 0 0)):=((But.refl _ _).set 2 _).set 3 _
   have hbx6:=bS (bS HBx5.out 2 (.slice none 0 0)) 3 (.slice none 0 0)
   have hbx6':((w5.setCell ⟨wb,2,none⟩ (.slice none 0 0)).setCell ⟨wb,3,none⟩ (.slice none 0 0)).heap[wb]?=some (worldO (came+1) psv ov2 o32):=by simpa [worldO] using hbx6
   obtain ⟨hL6,hs6⟩:=HL5.out.put hBu hbx6'
   exact ⟨rfl,F2,ov2,o32,n+1,gs2,hL6,HG2'.out,by omega,HS5.out.trans hs6⟩
def NilE (e:Ending):Prop:=∃ c er,e=.returned (.tuple #[.agg #[.slice none 0 0,c],er])
theorem do_insert1 (X:MachLib)(lo:Nat)(w:World)(M:Nat->Prop)(b n rb base:Nat)(lay:List Lay)(D:Pl.DB)(s:Pl.St)(h:ExIn w M b lay D)(hc:CSt w rb base s n)(hs:Pl.okSt s)(hk:s.kind=105)(hlo:lo<=w.heap.size) :
 Calls Tryz.prog 36 #[.pointer (some ⟨b,0,none⟩),.iface 133 (.pointer (some ⟨n,0,none⟩))] w (fun e w'=>PostDo lo w M b (Pl.doInsert D s) e w'/\NilE e):=by
 obtain ⟨tv,ts,hn,hts,htv⟩:=cst_insert hc hk
 have hb0:Below w.heap.size w (w.alloc boxO):=(Below.refl _ _).alloc (Nat.le_refl _) _
 have HI:=Z (insertM X (w.heap.size+1) s hs hk ts hts n tv (w.alloc boxO) M b lay D (h.below hb0) (by simp) (bB hb0 (lB hn) hn) (htv.below hb0))
 have HD:=Z (ch_done (o:=Pl.doInsert D s) h.db hlo (insert_rows D s))
 generalize Pl.doInsert D s=out at *
 have a1:=as_ic (w.alloc boxO) (.pointer (some ⟨n,0,none⟩))
 have a2:=as_ii (w.alloc boxO) (.pointer (some ⟨n,0,none⟩))
 clear hc hn hts htv hb0 h hs
 generalize PostDo lo w M b out=Post at *
 go_enter Tryz.func36,Tryz.ntmps36
 go_wp2_with fail
 refine (U HI).mono ?_
 rintro e w1 ⟨rfl,hp⟩
 obtain ⟨hx,he⟩:=HD.out w1 hp
 have x0:=bC hx 0
 have x1:=bC hx 1
 have xf0:=bF hx 0
 have xf1:=bF hx 1
 simp at x0 x1
 have hxz:=lB hx
 have HE:=Z he
 have HX:=Z hx
 clear he hp HD HI hx
 go_wp2_with fail
 refine bodyPost_ret (v:=.tuple #[.agg #[.slice none 0 0,.int .i64 out.2.count],.int .i64 (out.2.err:Nat)]) ?_ rfl ⟨HE.out _ ((((But.refl _ _).set 1 (.int .i64 out.2.count)).set 0 (.slice none 0 0)).set 1 (.int .i64 out.2.count)),_,_,rfl⟩
 have rb:=(bS (bS (bS HX.out 1 (.int .i64 out.2.count)) 0 (.slice none 0 0)) 1 (.int .i64 out.2.count))
 have r0:=bC rb 0
 have r1:=bC rb 1
 simp at r0 r1
 simp [results,Tryz.results36,go_sem,r0,r1]
theorem do_create1 (lo:Nat)(w:World)(M:Nat->Prop)(b n rb base:Nat)(lay:List Lay)(D:Pl.DB)(s:Pl.St)(h:ExIn w M b lay D)(hc:CSt w rb base s n)(hs:Pl.okSt s)(hk:s.kind=99)(hlo:lo<=base)(hbase:base<=w.heap.size) :
 Calls Tryz.prog 36 #[.pointer (some ⟨b,0,none⟩),.iface 131 (.pointer (some ⟨n,0,none⟩))] w (fun e w'=>PostDo lo w M b (Pl.doCreate D s) e w'/\NilE e):=by
 obtain ⟨cv,hn,hcv⟩:=cst_create hc hk
 have hb0:Below w.heap.size w (w.alloc boxO):=(Below.refl _ _).alloc (Nat.le_refl _) _
 have HI:=Z (createM lo s hs hk n base cv (w.alloc boxO) M b lay D (h.below hb0).db (by simp;omega) (bB hb0 (lB hn) hn) (own_below hb0 hcv) (fun k hk=>by have:=(hcv.lt k hk).1;omega))
 have HD:=Z (cr_done (lo:=lo) (o:=Pl.doCreate D s) h.db (create_rows D s))
 generalize Pl.doCreate D s=out at *
 have a1:=as_cc (w.alloc boxO) (.pointer (some ⟨n,0,none⟩))
 clear hc hn hcv hb0 h hs
 generalize PostDo lo w M b out=Post at *
 go_enter Tryz.func36,Tryz.ntmps36
 go_wp2_with fail
 refine (U HI).mono ?_
 rintro e w1 ⟨rfl,hp⟩
 obtain ⟨hx,he⟩:=HD.out w1 hp
 have x0:=bC hx 0
 have x1:=bC hx 1
 have xf0:=bF hx 0
 have xf1:=bF hx 1
 simp at x0 x1
 have hxz:=lB hx
 have HE:=Z he
 have HX:=Z hx
 clear he hp HD HI hx
 go_wp2_with fail
 have rb:=bS (bS HX.out 0 (.slice none 0 0)) 1 (.int .i64 0)
 simp at rb
 refine bodyPost_ret (v:=.tuple #[.agg #[.slice none 0 0,.int .i64 0],.int .i64 (out.2.err:Nat)]) ?_ rfl ⟨HE.out _ (((But.refl _ _).set 0 (.slice none 0 0)).set 1 (.int .i64 0)) rb,_,_,rfl⟩
 have r0:=bC rb 0
 have r1:=bC rb 1
 simp at r0 r1
 simp [results,Tryz.results36,go_sem,r0,r1]
theorem doM1 (X:MachLib)(lo:Nat)(w:World)(M:Nat->Prop)(b n rb base:Nat)(lay:List Lay)(D:Pl.DB)(s:Pl.St)(h:ExIn w M b lay D)(hc:CSt w rb base s n)(hs:Pl.okSt s)(hok:s.kind=99\/s.kind=105)(hlo:lo<=base)(hbase:base<=w.heap.size) :
 Calls Tryz.prog 36 #[.pointer (some ⟨b,0,none⟩),.iface (tyOf s.kind) (.pointer (some ⟨n,0,none⟩))] w (fun e w'=>PostDo lo w M b (Pl.doSt D s) e w'/\NilE e):=by
 rcases hok with hk|hk
 ·rw [doSt_99 hk,hk];exact do_create1 lo w M b n rb base lay D s h hc hs hk hlo hbase
 ·rw [doSt_105 hk,hk];exact do_insert1 X lo w M b n rb base lay D s h hc hs hk (by omega)
theorem execM1 (L:LexLib)(X:MachLib)(t:List UInt8)(w:World)(M:Nat->Prop)(b:Nat)(lay:List Lay)(D:Pl.DB)(h:Live w M b lay D)(ht:t.length<=1048576)(hok:∀ s,Pl.pParse t=some s->s.kind=99\/s.kind=105) :
 Calls Tryz.prog 18 #[.pointer (some ⟨b,0,none⟩),.string ⟨t.toArray⟩] w (fun e w'=>PostEx w M b (Pl.exec D t) e w'/\NilE e):=by
 have hb0:Below w.heap.size w (w.alloc boxO):=(Below.refl _ _).alloc (Nat.le_refl _) _
 have HR:=Z (readC L ⟨t.toArray⟩ (w.alloc boxO) (by simpa [ByteArray.size] using ht) (h.below hb0).spell (h.below hb0).err)
 have HL:=Z h
 have HOk:=Z hok
 clear hb0 h hok ht
 go_enter Tryz.func18,Tryz.ntmps18
 go_wp2_with fail
 refine (U HR).mono ?_
 rintro e w1 ⟨hb1,hp⟩
 simp only [World.size_alloc] at hb1 hp
 clear HR
 cases hpp:Pl.pParse t with
 | none =>
  rw [hpp] at hp
  simp only at hp
  subst hp
  obtain ⟨hx,he⟩:=ex_none HL.out.ex.db hb1
  rw [<- exec_none hpp] at he
  have x0:=bC hx 0
  have x1:=bC hx 1
  have xf0:=bF hx 0
  have xf1:=bF hx 1
  simp at x0 x1
  have hxz:=lB hx
  have HE:=Z he
  have HX:=Z hx
  clear he hpp hb1 hx
  go_wp2_with fail
  refine bodyPost_ret (v:=.tuple #[.agg #[.slice none 0 0,.int .i64 0],.int .i64 1]) ?_ rfl ⟨HE.out _ (((But.refl _ _).set 0 (.slice none 0 0)).set 1 (.int .i64 0)),_,_,rfl⟩
  have rb:=(bS (bS HX.out 0 (.slice none 0 0)) 1 (.int .i64 0))
  have r0:=bC rb 0
  have r1:=bC rb 1
  simp at r0 r1
  simp [results,Tryz.results18,go_sem,r0,r1]
 | some s =>
  rw [hpp] at hp
  simp only at hp
  obtain ⟨rb,n,rfl,hrb,hst⟩:=hp
  have hz1:=hb1.size
  simp only [World.size_alloc] at hz1
  have hb1':Below w.heap.size w w1:=((Below.refl _ _).alloc (Nat.le_refl _) boxO).trans (hb1.mono (by omega))
  have HDo:=Z (doM1 X (w.heap.size+1) w1 M b n rb (w.heap.size+1) lay D s (HL.out.below hb1').ex hst (Pl.parse_ok hpp) (HOk.out s hpp) (Nat.le_refl _) hz1)
  have HErr:=Z (doSt_err D s)
  have HEq:Hid (Pl.exec D t=Pl.doSt D s):=exec_some hpp
  generalize hout:Pl.doSt D s=out at *
  have HB1:=Z hb1
  clear hpp hst hb1 hrb hb1' hout
  go_wp2_with fail
  refine (U HDo).mono ?_
  rintro e w2 ⟨⟨rv,M',lay',rfl,hs2,ho2⟩,hnil⟩
  obtain ⟨xc,xe,hnil⟩:=hnil
  injection hnil with hnil
  injection hnil with hnil
  have hrv0:rv=.slice none 0 0:=by simp at hnil;exact hnil.1.1
  have HRv0:=Z hrv0
  have hx:=ex_box HL.out.ex.db HB1.out hs2
  have x0:=bC hx 0
  have x1:=bC hx 1
  have xf0:=bF hx 0
  have xf1:=bF hx 1
  simp at x0 x1
  have hxz:=lB hx
  have HX:=Z hx
  obtain ⟨ra,rc,hrv⟩:=ho2.slice
  have hq0:ra=none/\out.2.rows.length=0/\rc=0:=by rw [hrv0] at hrv;injection hrv with h1 h2 h3;exact ⟨h1.symm,h2.symm,h3.symm⟩
  subst hrv
  have HQ0:=Z hq0
  clear hrv0 HRv0 hq0 hnil
  have hz2:=hs2.keep.size
  have HOut:Hid (∀ o8 w3,But w.heap.size w2 w3->OutW w.heap.size (w3.alloc o8) M M' out.2.rows (.slice ra out.2.rows.length rc)):=fun o8 w3 h3=>ho2.keep (fun k hk hk2=>by rw [Below.heap_alloc _ _ _ (by rw [h3.size];exact hk2),h3.block k (by omega)]) (by omega)
  have HSt:Hid (∀ o8 w3,But w.heap.size w2 w3->DbStep w.heap.size w M b out.1 (w3.alloc o8) M' lay'):=fun o8 w3 h3=>ex_done HL.out.ex.db HB1.out hs2 h3
  by_cases h0:out.2.err=0
  ·have HE:Hid (∀ o8 w3,But w.heap.size w2 w3->PostEx w M b (Pl.exec D t) (.returned (.tuple #[.agg #[.slice ra out.2.rows.length rc,.int .i64 out.2.count],.int .i64 0])) (w3.alloc o8)):=fun o8 w3 h3=>by rw [HEq.out];exact ⟨_,M',lay',by rw [h0];rfl,HSt.out _ _ h3,HOut.out _ _ h3⟩
   rw [h0]
   clear HOut HSt hs2 ho2 HDo HErr hx h0
   go_wp2_with fail
   refine bodyPost_ret (v:=.tuple #[.agg #[.slice ra out.2.rows.length rc,.int .i64 out.2.count],.int .i64 0]) ?_ rfl ⟨HE.out _ _ (((But.refl _ _).set 0 (.slice ra out.2.rows.length rc)).set 1 (.int .i64 out.2.count)),_,_,by rw [HQ0.out.1,HQ0.out.2.1,HQ0.out.2.2]⟩
   have rb:=bA (bS (bS HX.out 0 (.slice ra out.2.rows.length rc)) 1 (.int .i64 out.2.count)) (.cells #[.slice ra out.2.rows.length rc,.int .i64 out.2.count] 36)
   have r0:=bC rb 0
   have r1:=bC rb 1
   simp at r0 r1
   simp [results,Tryz.results18,go_sem,r0,r1]
  ·obtain ⟨hr,hcn⟩:=HErr.out h0
   have hne:((out.2.err:Int) != 0)=true:=by simp;omega
   have HE:Hid (∀ o8 w3,But w.heap.size w2 w3->PostEx w M b (Pl.exec D t) (.returned (.tuple #[.agg #[.slice none 0 0,.int .i64 0],.int .i64 (out.2.err:Nat)])) (w3.alloc o8)):=fun o8 w3 h3=>by rw [HEq.out];exact ⟨_,M',lay',by rw [hcn],HSt.out _ _ h3,by rw [hr];exact OutW.nil _ _ _ _⟩
   clear HOut HSt hs2 ho2 HDo HErr hx hr hcn
   go_wp2_with fail
   refine bodyPost_ret (v:=.tuple #[.agg #[.slice none 0 0,.int .i64 0],.int .i64 (out.2.err:Nat)]) ?_ rfl ⟨HE.out _ _ (((But.refl _ _).set 0 (.slice none 0 0)).set 1 (.int .i64 0)),_,_,rfl⟩
   have rb:=bA (bS (bS HX.out 0 (.slice none 0 0)) 1 (.int .i64 0)) (.cells #[.slice ra out.2.rows.length rc,.int .i64 out.2.count] 36)
   have r0:=bC rb 0
   have r1:=bC rb 1
   simp at r0 r1
   simp [results,Tryz.results18,go_sem,r0,r1]
structure Globs (w:World):Prop where
 spell:SpellAt w
 err:ErrAt w
 rules:RulesAt w
 rlt : 9<w.heap.size
 pow:PowAt w
theorem okDB_nil:Pl.okDB []:=⟨by simp,by simp⟩
abbrev dbO:Obj:=.cells #[.slice none 0 0] 77
def oneB (b:Nat):Nat->Prop:=fun k=>k=b
theorem Live.new {w:World}(h:Globs w):Live (w.alloc dbO) (oneB w.heap.size) w.heap.size [] []:=by
 have hb:Below w.heap.size w (w.alloc dbO):=(Below.refl _ _).alloc (Nat.le_refl _) _
 refine ⟨⟨⟨fun k hk=>?_,rfl,⟨.slice none 0 0,blk_new _ _,own_nil,fun k hk=>(by cases hk)⟩,rfl,fun i l t hl=>(by simp at hl),fun i j l m _ hl=>(by simp at hl),okDB_nil⟩,h.rules.keep (hb.block _ h.rlt),fun e=>?_,?_⟩,h.spell.below hb,h.err.below hb,fun e=>?_,fun e=>?_,h.pow.keep (hb.block _ h.pow.lt),fun e=>?_⟩
 ·cases hk;simp
 ·have e' : 9=w.heap.size:=e
  have:=h.rlt
  omega
 ·have:=h.rlt
  simp;omega
 ·have e' : 1=w.heap.size:=e
  have:=h.spell.lt
  omega
 ·have e' : 8=w.heap.size:=e
  have:=h.err.lt
  omega
 ·have e' : 5=w.heap.size:=e
  have:=h.pow.lt
  omega
theorem newM (w:World):Calls Tryz.prog 14 #[] w fun e w'=>e=.returned (.pointer (some ⟨w.heap.size,0,none⟩))/\w'=w.alloc dbO:=by
 go_enter Tryz.func14,Tryz.ntmps14
 go_wp2_with fail
 go_ret
 exact ⟨rfl,rfl⟩
theorem full_nil (w:World)(F:Nat->Prop)(k:Int):FullO w F (.slice none 0 0) k:=⟨none,0,0,rfl,by omega,fun h=>by omega⟩
theorem looksN (w:World)(F:Nat->Prop)(wb came:Nat)(psv ov o3:Value)(n:Nat)(gs:List Value)(h:LawM w F wb came psv ov o3 n gs)(hn:n<=100000000)(hgs:gs.length=3*n) :
 Calls Tryz.prog 34 #[.pointer (some ⟨wb,0,none⟩)] w fun e w'=>e=.returned (.bool true)/\Below w.heap.size w w':=by
 obtain ⟨oa,oc,rfl,_⟩:=own_cap h.outs
 obtain ⟨ta,tc,rfl,_⟩:=own_cap h.three
 have HX:=Z h
 have hbx:=h.box
 have hbz:=lB hbx
 have b1:=bC hbx 1
 have b2:=bC hbx 2
 have b3:=bC hbx 3
 simp at b1 b2 b3
 have HGs:=Z hgs
 have hgl:gs.length<=300000000:=by omega
 have HSr:=Z sameRowsN
 clear h hbx hgs
 go_enter Tryz.func34,Tryz.ntmps34
 go_upto_region 1 with fail
 go_cut [3] (fun s5 wx=>s5=.bool true/\Hid (Below w.heap.size w wx))
 case first =>
  have HCl:Hid (Calls Tryz.prog 58 #[.slice none 0 0,.slice none 0 0] w.drew fun e w'=>∃ v,e=.returned v/\(v=.bool true/\Below w.heap.size w w')):=by
   refine (HSr.out w.drew).mono ?_
   rintro e w' ⟨rfl,rfl⟩
   exact ⟨_,rfl,rfl,(Below.refl _ _).drew⟩
  go_region_law (refine step_call2 rfl 58 (.tmp 19) (.tmp 23) _ rfl (.slice none 0 0) (.slice none 0 0) (ent_sameRows _ _) (by simp [Act.eval,Act.put]) (by simp [Act.eval,Act.put]) _ (U HCl) ?_
                 rintro v8 w8 ⟨rfl,hp8⟩
                 have HP8:=Z hp8
                 clear hp8)
  all_goals go_wp2_with fail
  all_goals go_meet
  all_goals exact ⟨rfl,HP8.out⟩
 case rest =>
  obtain ⟨rfl,HB⟩:=hcut
  have hX1:=HX.out.below HB.out
  have HX1:=Z hX1
  have k1:=bC hX1.box 1
  have k5:=bC hX1.box 5
  have k7:=bC hX1.box 7
  have k8:=bC hX1.box 8
  simp at k1 k5 k7 k8
  have hkz:=lB hX1.box
  clear b1 b2 b3 hX1 hbz HSr
  go_wp2_with fail
  go_loop [4] (fun b=>b=.int .i64 0) (fun _=>0)
  case atStart=>rfl
  case round =>
   obtain rfl:=hrel
   go_wp2_with fail
   go_loop [10] (fun b=>∃ k:Nat,k<=n/\b=.int .i64 (k:Nat)) (fun b=>n - (intOf b).toNat)
   case atStart=>exact ⟨0,Nat.zero_le _,rfl⟩
   case round =>
    obtain ⟨k,hk,rfl⟩:=hrel
    by_cases hlt:k<n
    ·obtain ⟨go,_,e,_,hgo,c0⟩:=own_cell' HX1.out.outs (j:=k) (u:=.slice none 0 0) (by rw [List.getElem?_replicate];simp [hlt])
     cases e
     obtain ⟨p,hp,HP⟩:∃ p:Nat,(3:Int)*(k:Int)=(p:Nat)/\Hid (p=3*k):=⟨3*k,by omega,rfl⟩
     have hpg:p+2<gs.length:=by have:=HP.out;have:=HGs.out;omega
     have q0:gs[p]?=some (gs[p]'(by omega)):=List.getElem?_eq_getElem _
     have q1:gs[p+1]?=some (gs[p+1]'(by omega)):=List.getElem?_eq_getElem _
     have q2:gs[p+2]?=some (gs[p+2]'(by omega)):=List.getElem?_eq_getElem _
     generalize gs[p]'(by omega)=x0 at *
     generalize gs[p+1]'(by omega)=x1 at *
     generalize gs[p+2]'(by omega)=x2 at *
     obtain ⟨g3,_,e,_,hg3,d0⟩:=own_cell' HX1.out.three q0
     cases e
     obtain ⟨_,_,e,_,_,d1⟩:=own_cell' HX1.out.three q1
     cases e
     obtain ⟨_,_,e,_,_,d2⟩:=own_cell' HX1.out.three q2
     cases e
     have f0:=HX1.out.full p x0 q0
     have f1:=HX1.out.full (p+1) x1 q1
     have f2:=HX1.out.full (p+2) x2 q2
     rw [show p / 3=k by have:=HP.out;omega] at f0
     rw [show (p+1) / 3=k by have:=HP.out;omega] at f1
     rw [show (p+2) / 3=k by have:=HP.out;omega] at f2
     have HC:=Z (fullOutM _ (-1 - (k:Int)) F wc (full_nil wc F _))
     have H0:=Z (fullOutM x0 (-1 - (k:Int)) F wc f0)
     have H1:=Z (fullOutM x1 (-1 - (k:Int)) F wc f1)
     have H2:=Z (fullOutM x2 (-1 - (k:Int)) F wc f2)
     obtain ⟨xa0,xm0,xc0,rfl,_,_⟩:=f0
     obtain ⟨xa1,xm1,xc1,rfl,_,_⟩:=f1
     obtain ⟨xa2,xm2,xc2,rfl,_,_⟩:=f2
     have hki:((k:Nat):Int)<((n:Nat):Int):=by omega
     have hpw:IntKind.i64.wrap ((p:Nat):Int)=((p:Nat):Int):=by rw [IntKind.wrap_i64];omega
     have hpi:((p:Nat):Int)<((gs.length:Nat):Int):=by omega
     have hpi1:((p:Nat):Int)+1<((gs.length:Nat):Int):=by omega
     have hpi2:((p:Nat):Int)+2<((gs.length:Nat):Int):=by omega
     clear q0 q1 q2
     go_wp2_with fail
     refine (U HC).mono ?_
     rintro e w5 ⟨rfl,rfl⟩
     go_wp2_with fail
     refine (U H0).mono ?_
     rintro e w6 ⟨rfl,rfl⟩
     go_wp2_with fail
     refine (U H1).mono ?_
     rintro e w7 ⟨rfl,rfl⟩
     go_wp2_with fail
     refine (U H2).mono ?_
     rintro e w8 ⟨rfl,rfl⟩
     clear HC H0 H1 H2
     go_wp2_with fail
     go_round
     case rel=>exact ⟨k+1,by omega,by go_num⟩
     case measure=>simp [intOf];omega
    ·obtain rfl:k=n:=by omega
     go_wp2_with fail
     go_ret
     exact ⟨rfl,HB.out⟩
end Go.Proofs.YtojdpjpldokjmaaGreatDoor
