import Derived.BigRegion
import Derived.Test.YtojdpjpldokjmaaGreatDoorC08
set_option maxHeartbeats 0
set_option maxRecDepth 100000
set_option linter.all false
namespace Go.Proofs.YtojdpjpldokjmaaGreatDoor
open Go.Deep Go.RowKit Tryz
open RowKit renaming Hid->Ze
open Go renaming results->Zh
variable{i j k n:Nat}{W w:World}{F:YY}{R S:aA}
def Hl{α:Type}{l:List α}{m:Nat}(u:α)(h:i<m):(l.set i u).take m=(l.take m).set i u:=by
 apply WX;intro j;simp only[V6,Wq,Wl];by_cases b:j<m
 .by_cases a:i=j
  .subst a;by_cases c:i<l.length
   .rw[VG b,VG rfl,VG c,VG rfl,VG<|by omega]
   rw[VG b,VG rfl,VF c,VG rfl,VF<|by omega]
  rw[VG b,VF a,VF a,VG b]
 rw[VF b,VF<|by omega,VF b]
def Aa{e:TypeId}{v:Value}{g i:Nat}{c:Y0}(h:w.ownsRow k e j v n c)(b:v.ownBlock=some g)(t:i<n*j)(u:Value):(w.setCell ⟨g,i,none⟩ u).ownsRow k e j v n<|c.set i u:=by
 obtain⟨l,o⟩:=h;refine⟨by rw[Wu];exact l,?_⟩;obtain⟨rfl,_⟩|⟨d,cap,a,rfl,p,r,q,x,hs,y⟩:=o
 .cases b
 simp[Value.ownBlock]at b;subst b;refine .inr ⟨d,cap,a.setIfInBounds i u,rfl,p,bS r i u,q,x,by simpa using hs,?_⟩;rw[Array.toList_setIfInBounds,Hl _ t,y]
def K6(A:List cQ)(c:cQ)(B:List cQ)(q:Nat):(lR<|A++c::B).set (A.length*5+4) (qI q)=lR (A++⟨c.aC,c.v,q⟩::B):=by
 have e:∀c:cQ,lR (A++c::B)=lR A++(rK c++lR B):=λc=>by rw[x9];show lR A++lR ([c]++B)=_;rw[x9,C3]
 rw[e,e,Ws _ _ (by rw[C2];omega),C2];rw[show A.length*5+4-A.length*5=4 by omega];rfl
def jM.set{P:Y7}{A B:List cQ}{c:cQ}(h:jM w n P F<|A++c::B)(q:Nat):∃g cap cv,w.heap[n]?=some (.cells #[cv,qL g (A++c::B).length cap] 362)/\g<w.heap.size/\w.frozen? ⟨g,A.length*5+4,none⟩=false/\(∃u,w.cell? ⟨g,A.length*5+4,none⟩=some u) /\
 jM (w.setCell ⟨g,A.length*5+4,none⟩<|qI q) n P F (A++⟨c.aC,c.v,q⟩::B)/\KP P w (w.setCell ⟨g,A.length*5+4,none⟩<|qI q):=by
 obtain⟨r,l,z,i,D,cv,v,t,o,x,y⟩:=h;obtain⟨g,cap,b,rfl,E,p,C,G,hs,H⟩:∃g cap b,v=qL g (A++c::B).length cap/\n+1<=g/\w.heap[g]?=some (.cells b 335 (0,0))/\(A++c::B).length<=cap/\cap<=maxLen/\b.size=cap*5/\b.toList.take ((A++c::B).length*5)=lR (A++c::B):=by
  obtain⟨_,j⟩|j:=x.2
  .simp at j
  exact j
 have e:A.length*5+4<(A++c::B).length*5:=by simp;omega
 have a:KP P w<|w.setCell ⟨g,A.length*5+4,none⟩<|qI q:=(KP.refl P w).set (λd=>y g rfl d) _;refine⟨g,cap,cv,t,lB p,bF p _,?_,?_,a⟩
 .refine⟨_,(bC p _).trans<|Array.getElem?_eq_getElem ?_⟩;have:(A++c::B).length*5<=cap*5:=Wy _ C;omega
 .refine⟨λk d=>⟨by rw[size_set];exact(r k d).1,(r k d).2⟩,l,by simpa using z,i,D.aL<|a.block _<|l _ i,cv,qL g (A++c::B).length cap,?_,o.aL λk hk=>a.block k<|l k hk,?_,?_⟩
  .exact bY t (by omega) _ _
  .have:=Aa x (g:=g) rfl e<|qI q;rw[K6]at this;simpa using this
  intro k hk d;exact y k hk d
def KP.drew{P:Y7}(h:KP P w W):KP P w W.drew:=⟨h.os,h.tape,h.output,h.size,h.block⟩
def jM.drew{P:Y7}{a:List cQ}(h:jM w n P F a):jM w.drew n P F a:=h
def jM.box{P:Y7}{b:List cQ}(h:jM w n P F b):∃cv a c,w.heap[n]?=some (.cells #[cv,.slice a b.length c] 362):=by
 obtain⟨_,_,_,_,_,cv,v,d,_,j,_⟩:=h;obtain⟨rfl,i⟩|⟨g,cap,e,rfl,_⟩:=j.2
 .exact⟨cv,none,0,by rw[i];exact d⟩
 exact⟨cv,_,_,d⟩
def J4{a1 a2:Nat}{p:k_}(av:17<=p.op)(ag:p.op<=18)(ae:Ca 251 R)(af:Ca 251 S):
 ∀ab d t P w v,ab.length<=1000->jM w t P ab d->xW w t (.node a1 a2 p R S) v->d.length+2*eH (.node a1 a2 p R S)<=1048576->Calls prog 287 #[qP t,v,qI ((p.op-15:Nat):Int)] w (i6 w t P ab d<|.node a1 a2 p R S):=by
 intro ab d t P w v u hc ht hl;obtain⟨n,vl,vr,rfl,Q,(HB:Ze _),hL,(J:Ze _)⟩:=ht;have ax:=hc.lt;have aF:n<w.heap.size:=by omega
 have c0:=bC HB;rw[eH]at hl;obtain⟨A,O⟩:∃A:Nat,p.op-15=A:=⟨_,rfl⟩;rw[O];have i:=Z<|ae ab d t P w vl u hc hL (by omega);have l:=Z λc U ai ao o=>af ab c t P U vr u ai ao o;have G:=Z λU c (k:jM U t P ab c) (o:c.length+1<=1048576)=>J9 ⟨A,aE,0⟩ k o;have B:=Z hc.2.1;have HS:Ze<|eH (.node a1 a2 p R S)=eH R+eH S+1:=by rw[Ze,eH]
 have V:Ze<|bD ab (.node a1 a2 p R S)=match bD ab R with|.error e=>.error e|.ok a=>match bD ab S with|.error e=>.error e|.ok b=>fm p.op a b:=by
  unfold Ze;rw[bD,VF<|by omega,VF<|by omega];cases bD ab R with
  |error e=>rfl
  |ok a=>simp only;rw[VF<|by omega];cases bD ab S<;>rfl
 have HG:Ze<|cy ab d.length (.node a1 a2 p R S)=cy ab d.length R++(⟨A,aE,d.length+(cy ab d.length R).length+1+(cy ab (d.length+(cy ab d.length R).length+1) S).length+1⟩::(cy ab (d.length+(cy ab d.length R).length+1) S++[⟨p.op+2,aE,0⟩])):=by unfold Ze;rw[cy,VF<|by omega,VF<|by omega,VF<|by omega,VF<|by omega,O]
 have K:2<=p.op:=by omega
 cases htl:bD ab R with
 |error y=>
  have z:((y:Int) != 0)=true:=by have:=fB htl;simp;omega
  rw[htl]at V;unfold i6 at i ⊢;rw[htl]at i;rw[V];simp only[ou]at i ⊢;go_in;go_wp2_with fail;apply qR i;rintro D⟨r,c,q,x,_⟩;have j:=Z r;have g:=Z q;go_wp2;exact VI (by simp[Zh,results287,go_sem]) rfl ⟨rfl,j,c,g,by rw[HS];omega,λC h=>by cases h⟩
 |ok a=>
  rw[htl]at V;unfold i6 at i l ⊢;rw[htl]at i;rw[V];simp only[ou]at i;cases htr:bD ab S with
  |error er=>
   have ay:((er:Int) != 0)=true:=by have:=fB htr;simp;omega
   rw[htr]at l;simp only[ou]at l ⊢;unfold IK at G;simp only[aE]at G;go_in;go_wp2_with fail;apply qR i;rintro w1⟨z,c,y,aq,X⟩;have I:=Z z;have r:=z.g (B n Q) HB;have aL:=lB r;have E:=Z r;obtain⟨TT,sa,sc,D⟩:=y.box;have x1:=bC D 1;simp at x1;have aI:=lB D;have H:=Z<|G w1 c y (by omega);go_wp2_with fail;apply qR H;rintro w2⟨N,C⟩;have q:=Z<|I.trans C;have x:=C.g (B n Q) E;have d7:=bC x 7;simp at d7;have aN:=lB x;have M:=Z<|l _ w2 N (q.c B J) (by simp;omega);go_wp2_with fail;apply qR M;rintro w3⟨Y,g,W,j,_⟩;have L:=Z<|q.trans Y;have F:=Z W;go_wp2;exact VI (by simp[Zh,results287,go_sem]) rfl ⟨rfl,L,g,F,by rw[HS];simp at j;omega,λty h=>by cases h⟩
  |ok b=>
   rw[htr]at l;simp only[ou]at l;have HF:=Z λU c (k:jM U t P ab c) (o:c.length+1<=1048576)=>D2 p.op a b K ag k o;obtain⟨x,y,ap⟩:=tF<|fm p.op a b;simp only;rw[ap]at HF ⊢;unfold IK at G;simp only[aE]at G;go_in;go_wp2_with fail;apply qR i;rintro w1⟨q,c,j,ar,g⟩;have ac:=Z q;have H:=Z<|g a rfl;have h:=q.g (B n Q) HB;have aM:=lB h;have W:=Z h;obtain⟨TT,sa,sc,r⟩:=j.box;have x1:=bC r;have aJ:=lB r;have aa:=Z<|G w1 c j (by omega);clear q j g h r;go_wp2_with fail;apply qR aa;rintro w2⟨aj,M⟩;have I:=Z<|ac.trans M;have D:=M.g (B n Q) W;have d7:=bC D;have aO:=lB D;have X:=Z D;go_wp2_with fail;refine(Z<|l _ w2 aj (I.c B J) (by simp;omega)).mono ?_;rintro e w3⟨rfl,N,j,ak,r,z⟩;have L:=N.g (B n Q) X;have d0:=bC L;have aP:=lB L;have aD:j.length+1<=d.length+2*(eH R+eH S+1):=by simp at r;omega
   go_wp2_with fail;refine(Z<|HF w3 j ak (by simp at r;omega)).mono ?_;rintro e w4⟨rfl,F,am⟩;have e4:j++vf p.op a b=c++(⟨A,aE,0⟩:cQ)::(cy ab (c++[(⟨A,aE,0⟩:cQ)]).length S++vf p.op a b):=by rw[Z<|z b rfl];simp[aE]
   rw[e4]at F;obtain⟨T,(C:Ze _)⟩:∃T,(cy ab (c++[(⟨A,aE,0⟩:cQ)]).length S++vf p.op a b)=T:=⟨_,rfl⟩;rw[C]at F;have aw:c.length+(T.length+1)=j.length+(vf p.op a b).length:=by have:=Wd List.length e4;rw[C]at this;simpa using this.symm
   obtain⟨q,(HQ:Ze _)⟩:∃q,(c++(⟨A,aE,0⟩:cQ)::T).length=q:=⟨_,rfl⟩;obtain⟨g,cap,au,E,aC,aB,⟨u4,aH⟩,al,an⟩:=F.set q;rw[HQ]at E;have y1:=bC E;have aK:=lB E;have Y:=Z al;have ad:=Z<|(Z<|(Z<|I.trans N).trans am).trans an;have aG:c.length<q:=by rw[<-HQ];simp
   go_wp2;go_region;go_wp2;have az:=A1 p.op a b;refine VI (by simp[Zh,results287,go_sem]) rfl ⟨rfl,ad.drew,_,Y.drew,?_,λty h=>?_⟩
   .rw[HS];simp;omega
   have ah:T=cy ab (c++[(⟨A,aE,0⟩:cQ)]).length S++[⟨p.op+2,aE,0⟩]:=by rw[<-C];unfold vf;rw[h]
   have u:c.length=d.length+(cy ab d.length R).length:=by rw[H];simp
   rw[HG,<-HQ,ah];simp only[VH,Wk,WR,u,XC];rw[H,Wh];have hX:∀x y:Nat,x+(y+1+1)=x+1+y+1:=λx y=>by omega
   rw[hX]
