import Derived.Deep.RegionLaw
import Derived.BigRegion
import Derived.Test.YtojdpjpldokjmaaGreatDoorC06
set_option maxHeartbeats 0
set_option maxRecDepth 100000
set_option linter.all false
namespace Go.Proofs.YtojdpjpldokjmaaGreatDoor
open Go.Deep Go.RowKit Tryz
open Go renaming World->Za,Value->Zb,Calls->Zc,TypeId->Zf,results->Zh,maxLen->Zj
open RowKit renaming Hid->Ze
variable{W w x:World}{i j k n:Nat}{I J:YW}{A B C u z:Value}{M a:Int}{G:Y7}{F:YY}{R S:aA}
def vC(v:ai):Y0:=[qI v.aC,qI v.n,qT v.s]
def ON:YW->Y0
 |[]=>[]
 |v::st=>ON st++vC v
def Ab:∀a:YW,(ON a).length=a.length*3
 |[]=>rfl
 |v::a=>by simp[ON,vC,Ab a];omega
def iZ(w:Za)(sb base top:Nat)(st:YW):Prop:=sb<base/\base<=top/\top<=w.heap.size/\st.length<=1048576/\∃v,w.heap[sb]?=some (.cells #[v] 332)/\w.ownsRow base 34 3 v st.length (ON st)/\∀k,v.ownBlock=some k->k<top
def pP{e:Zf}{v:Zb}{b:Y0}(h:w.ownsRow k e i v (n+1) b):∃g cap,v=qL g (n+1) cap:=by
 obtain⟨_,a⟩|⟨g,cap,_,rfl,_⟩:=h.2
 .cases a
 exact⟨g,cap,rfl⟩
def QF{b:Nat}{a:Zb}{v:ai}(h:w.ownsRow k 34 3 (qL i n b) (v::I).length<|ON<|v::I):
 w.cell? ⟨i,I.length*3,none⟩=some (qI v.aC)/\w.cell? ⟨i,I.length*3+1,none⟩=some (qI v.n)/\w.cell? ⟨i,I.length*3+2,none⟩=some (qT v.s):=by
 have c:=λj u d=>addr_add i j▸h.cells (g:=i) rfl j u d;refine⟨c _ _ ?_,c _ _ ?_,c _ _ ?_⟩<;>simp[ON,vC,VW,Ab I]
def UN{v:ai}(j:YW)(h:iZ w n k i<|v::j):Zc prog 219 #[qP n] w<|qF (vV v) w:=by
 obtain⟨x,p,q,d,sv,c,b,y⟩:=h;obtain⟨g,cap,rfl⟩:=pP b;obtain⟨C,D,E⟩:=QF (a:=qN) b;have A:=bC c;have u:=lB c;have t:g<w.heap.size:=by obtain⟨e,_⟩|⟨B,l,o,e,_,r,_⟩:=b.2;cases e;cases e;exact(Array.getElem?_eq_some_iff.1 r).1
 simp at d;have z:wrap64 ((j.length:Int)+1-1)=j.length:=by unfold wrap64;omega
 unfold vV;go_in;go_wp2;go_region;go_wp2_with refine VI (v:=.agg #[qI v.aC,qI v.n,qT v.s]) ?_ rfl ⟨rfl,((VM w.heap.size w).alloc (VR _) _).drew⟩;simp[Zh,results219,go_sem]
structure KB(base sb:Nat)(w w':Za):Prop where
 os:w'.os=w.os
 tape:w'.tape=w.tape
 output:w'.output=w.output
 size:w.heap.size<=w'.heap.size
 block:∀k,k<base->k≠sb->w'.heap[k]?=w.heap[k]?
def KB.refl(a b:Nat)(w:Za):KB a b w w:=⟨rfl,rfl,rfl,qZ,λ_ _ _=>rfl⟩
def KB.trans(h:KB n j w W)(k:KB n j W x):KB n j w x:=
 ⟨k.os.trans h.os,k.tape.trans h.tape,k.output.trans h.output,Wf h.size k.size,λi hi a=>(k.block i hi a).trans<|h.block i hi a⟩
def KB.d(h:aH i w W)(b:n<=w.heap.size):KB n i w W:=
 ⟨h.os,h.tape,h.output,h.size,λk hk a=>h.block k (by omega) a⟩
def KB.below{base sb:Nat}(h:qB w W)(a:base<=w.heap.size):KB base sb w W:=KB.d ((aH.refl sb w).below h) a
def KB.grown{a:Option Nat}(h:w.grownBy W a)(c:∀k,a=some k->n<=k)(d:n<=w.heap.size):KB n i w W:=
 ⟨h.os,h.tape,h.output,h.size,λk hk b=>h.block k (by omega) (λe=>by have:=c k e.symm;omega)⟩
def KB.set(h:KB n k w W)(o:Nat)(v:Zb):KB n k w<|W.setCell ⟨k,o,none⟩ v:=
 h.trans ⟨rfl,rfl,rfl,by simp[Za.setCell],λi _ a=>VN _ _ _ _ a⟩
def iZ.aL{w':Za}(h:iZ w n i j I)(y:w.heap.size<=w'.heap.size)(d:∀k,k<j->w'.heap[k]?=w.heap[k]?):iZ w' n i j I:=by
 obtain⟨l,o,p,q,v,r,b,c⟩:=h;refine⟨l,o,Wf p y,q,v,by rw[d n<|by omega];exact r,⟨b.1,?_⟩,c⟩;obtain e|⟨g,cap,a,rfl,t,u,x⟩:=b.2
 .exact .inl e
 exact .inr ⟨g,cap,a,rfl,t,by rw[d g<|c g rfl];exact u,x⟩
def iZ.below{sb base:Nat}(h:iZ w sb base n I)(a:qB w W):iZ W sb base n I:=
 h.aL a.size (λk hk=>a.block k (by have:=h.2.2.1;omega))
def iZ.box{a:Nat}(h:iZ w n j a I)(b:a<=k)(x y z:Zb):iZ (((w.setCell ⟨k,0,none⟩ x).setCell ⟨k,1,none⟩ y).setCell ⟨k,2,none⟩ z) n j a I:=
 h.aL (by simp[Za.setCell]) (λi hi=>by rw[VN _ _ _ _ (by simp;omega),VN _ _ _ _ (by simp;omega),VN _ _ _ _ (by simp;omega)])
def iZ.up(h:iZ w n i j I):iZ w n i w.heap.size I:=by obtain⟨b,c,a,d,v,e,g,l⟩:=h;exact⟨b,Wf c a,qZ,d,v,e,g,λk hk=>VT (l k hk) a⟩
def QE{F:Za}{b g a:Nat}{v:ai}(q:i<j)(l:j<=b)(o:∀k,(qL g n a).ownBlock=some k->k<b)(t:b<=w.heap.size)(C:I.length+1<=1048576)
 (c:w.ownsRow j 34 3 (qL g n a) (I.length+1)<|ON<|v::I) (r:aH i w F) (u:F.heap[i]?=some (.cells #[qL g I.length a] 332)):iZ F i j b I:=by
 refine⟨q,l,Wf t r.size,by omega,_,u,?_,o⟩;have e:w.ownsRow j 34 3 (qL g I.length a) I.length<|ON I:=by
  refine⟨Ab I,?_⟩;obtain⟨e,_⟩|⟨B,p,d,A,x,y,D,z,h,l⟩:=c.2
  .cases e
  cases A;refine .inr ⟨g,a,d,rfl,x,y,by omega,z,h,?_⟩;have:=Wd (List.take<|I.length*3) l;rw[XW]at this;rw[show min (I.length*3) ((I.length+1)*3)=I.length*3 by omega]at this;rw[this];simp[ON,List.take_append,Ab]
 exact dM r q e
def LN{v:ai}(a:YW)(h:iZ w n i j<|v::a):Zc prog 222 #[qP n] w λe l=>e=.returned (vV v)/\iZ l n i j a/\aH n w l:=by
 have H:=Z λl (k:iZ l n i j<|v::a)=>UN a k;have I:=Z h;obtain⟨L,P,z,q,sv,d,r,u⟩:=h;obtain⟨g,cap,rfl⟩:=pP r;have t:=lB d;have B:a.length+1<=cap:=by
  obtain⟨K,_⟩|⟨W,y,J,Q,X,hg,N,_⟩:=r.2
  .cases K
  cases Q;exact N
 have R:wrap64 ((a.length:Int)+1-1)=a.length:=by simp at q;unfold wrap64;omega
 have O:a.length<=cap:=by omega
 have G:=Z λF hk M=>QE (F:=F) L P u z (by simpa using q) r hk M;have E:=Z d;have T:=Z z;have U:=bC d;have Y:=bF d 0;simp at q;have S:wrap64 (a.length:Int)=a.length:=by unfold wrap64;omega
 unfold vV at*;go_in;go_wp2_with fail;refine qR (H _<|I.below<|(VM w.heap.size w).alloc qZ _) ?_;intro D b;obtain⟨c1,V⟩:=dN b;have c:=Z<|((VM w.heap.size w).alloc qZ _).trans<|b.mono (by simp);have x:w.heap.size<D.heap.size:=by have:=b.size;simp at this;omega
 have C:n<D.heap.size:=by omega
 have o:=Z<|bB c t E;go_wp2;go_region;go_wp2;have A:=(((((((aH.refl n w).below c).set 0<|qL g a.length cap).l (p:=⟨w.heap.size,0,none⟩) (VR _)<|qI v.aC).l (p:=⟨w.heap.size,1,none⟩) (VR _)<|qI v.n).l (p:=⟨w.heap.size,2,none⟩) (VR _)<|qT v.s).alloc<|Obj.cells #[qI v.aC,qI v.n,qT v.s] 34).drew;refine VI (v:=.agg #[qI v.aC,qI v.n,qT v.s]) ?_ rfl ⟨rfl,G _ A ?_,A⟩
 .simp[Zh,results222,go_sem,c1,x]
 exact Av<|bA (bY (bY (bY (bS o 0 _) (by omega) _ _) (by omega) _ _) (by omega) _ _) _
def Sa:(prog.info? 34).map (λi=>(i.zero,i.size,i.bytes))=some (some<|.agg #[qI 0,qI 0,.string ⟨#[]⟩],3,32):=by kernel_rfl
def zU{P:Program}{p:Array Oper}{o:Oper}{a:Act}{K:Act->Za->Prop}{Q:Exit->Act->Za->Prop}{E:Prop}
 (T:o.guard=none)(s x:Operand){t:Zf}(B:o.op=Op.call {callee:=Callee.builtin Builtin.append,args:=#[s,x],argTypes:=#[t,t]})
 {h:Nat}{e:Zf}(i:TypeInfo){z:Zb}{b g:Nat}(G:P.underlying t=some (.slice e))(H:P.info? e=some i)(I:i.zero=some z)(J:i.size=b)(L:i.bytes=g)(M:z.cells.size=b)(N:0<b)
 {v:Zb}{n:Nat}{C:Y0}(V:a.eval s=v)(k:w.ownsRow h e b v n C)
 (y:Addr)(m c:Nat)(d:Y0)(X:a.eval x=.slice (some y) m c)(U:d.length=m*b)(S:∀j u,d[j]?=some u->w.cell? (y.add j)=some u)(A:∀u∈d,u.oneCell'=true)
 (D:n+m<=Zj)(F:(n+m)*g<=140737488355328)(R:h<=w.heap.size)
 (O:∀r q,q.ownsRow h e b r (n+m) (C++d)->w.grownBy q v.ownBlock->K (a.put o.dst r) q):
 if Region.wanted o (yielded p a.tmps)=true then Oper.wp P o a w K Q else E:=by
 have W:Region.wanted o (yielded p a.tmps)=true:=by simp[Region.wanted,T]
 rw[VG W];obtain⟨r,q,l,Y,Z,_⟩:=run_append_own (P:=P) w h t o.type e i z b g G H I J L M N v n C k y m c d U S A D F R;unfold Oper.wp;simp[execOp,B,resolve,invoke,builtin,V,X,l,Result.andThen];exact O r q Y Z
def OP{w1 w2:Za}{v':Zb}{v:ai}(l:n<i)(r:i<=j)(q:j<=w.heap.size)(p:I.length+1<=1048576)(c:w.heap[n]?=some (.cells #[u] 332))
 (g:w.ownsRow i 34 3 u I.length<|ON I)(b:qB w w1)(a:w2.ownsRow i 34 3 v' (I.length+1)<|ON I++vC v)(h:w1.grownBy w2 u.ownBlock):
 w2.heap[n]?=some (.cells #[u] 332)/\iZ (w2.setCell ⟨n,0,none⟩ v') n i w2.heap.size (v::I)/\KB i n w (w2.setCell ⟨n,0,none⟩ v'):=by
 have o:∀k,u.ownBlock=some k->i<=k:=λk b=>(g.lt k b).1;have d:w2.heap[n]?=some (.cells #[u] 332):=by rw[h.block n (by have:=b.size;have:=lB c;omega) (λe=>by have:=o n e.symm;omega)];exact bB b (lB c) c
 refine⟨d,⟨l,?_,by rw[size_set];exact qZ,by simpa using p,v',by rw[bS d];rfl,dM ((aH.refl n w2).set 0 v') l a,λk b=>(a.lt k b).2⟩,?_⟩
 .have:=h.size;have:=b.size;omega
 .exact((KB.below b<|by omega).trans<|KB.grown h o (by have:=b.size;omega)).set 0 v'
def Ra(v:ai)(h:iZ w n k i I)(O:I.length+1<=1048576):Zc prog 218 #[qP n,vV v] w λe p=>e=.returned (.tuple #[])/\iZ p n k p.heap.size (v::I)/\KB k n w p:=by
 obtain⟨M,Q,B,h3,sv,o,t,R⟩:=h;obtain⟨S,hi,x,y,z⟩:=V5 Sa;have P:=lB o;have W:=bC o;have hf:=bF o 0;have J:=Z λT U D hk c N=>OP (w1:=T) (w2:=U) (v':=D) (v:=v) M Q B O o t hk c N;have V:=Z B;obtain⟨sa,sn,sc,rfl⟩:=aF t;have E:=Z t;have G:Ze (∀j u,(vC v)[j]?=some u->((w.alloc<|.cells #[qI v.aC,qI v.n,qT v.s] 34).alloc<|.cells #[qI v.aC,qI v.n,qT v.s] 34).drew.cell? ((⟨w.heap.size+1,0,none⟩:Addr).add j)=some u):=by have:=cW (w.alloc<|.cells #[qI v.aC,qI v.n,qT v.s] 34) (vC v) 34;simp only[Za.alloc,X7]at this ⊢;exact this
 have H:Ze (∀u∈vC v,u.oneCell'=true):=by intro u C;simp[vC]at C;obtain rfl|rfl|rfl:=C<;>rfl
 have F:Ze<|I.length+1<=Zj:=by unfold Ze Zj;omega
 have K:Ze<|(I.length+1)*32<=140737488355328:=by unfold Ze;omega
 have L:Ze<|k<=((w.alloc<|.cells #[qI v.aC,qI v.n,qT v.s] 34).alloc<|.cells #[qI v.aC,qI v.n,qT v.s] 34).drew.heap.size:=by unfold Ze;simp[Za.drew];omega
 have HB:Ze<|qB w ((w.alloc<|.cells #[qI v.aC,qI v.n,qT v.s] 34).alloc<|.cells #[qI v.aC,qI v.n,qT v.s] 34).drew:=(((VM w.heap.size w).alloc qZ _).alloc (by simp) _).drew;unfold vV at*;go_in;go_wp2
 go_region_law (refine zU rfl (.tmp 7) (.tmp 9) rfl S underlying332 hi x y z rfl (by decide) rfl ((E.alloc _).alloc _) ⟨w.heap.size+1,0,none⟩ 1 1 (vC v) rfl rfl G H F K L ?_;intro D p a d;obtain⟨Y,A,rfl⟩:=pP a;obtain⟨b,l,g⟩:=J.o _ _ _ HB a d;have c2:=bC b 0;simp at c2;have X:=bF b 0;have r:=Z l;have q:=Z g;clear l g b a d)
 all_goals go_wp2_with fail
 all_goals
  refine WL (v:=.tuple #[]) (by simp[Zh,results218,go_sem]) rfl ?_;exact⟨rfl,by rw[size_set];exact r,q⟩
def Vq(X:dD)(d:6<=n)(a:n<=18)(l r:ai)(e:tM l.n)(g:tM r.n)(w:Za):Zc prog 255 #[qI ((n+2:Nat):Int),vV l,vV r] w<|qF (jW<|fH n l r) w:=by
 by_cases c:n=17
 .exact Hp false<|.inl ⟨c,rfl⟩
 by_cases a:n=18
 .exact Hp true<|.inr ⟨a,rfl⟩
 cases hl:l.c
 .cases hr:r.c
  .by_cases b:n<=10
   .exact SW d b hl hr e g
   exact SV X (by omega) (by omega) hl hr
  exact KJ d (by omega)<|.inr hr
 exact KJ d (by omega)<|.inl hl
def aH.c{base:Nat}(h:aH n w W)(a:base<=w.heap.size):KB base n w W:=KB.d h a
def KB.box(h:KB n j w W)(a:n<=k)(x y z:Zb):KB n j w<|((W.setCell ⟨k,0,none⟩ x).setCell ⟨k,1,none⟩ y).setCell ⟨k,2,none⟩ z:=by refine h.trans ⟨rfl,rfl,rfl,by simp[Za.setCell],λi hi _=>?_⟩;rw[VN _ _ _ _ (by simp;omega),VN _ _ _ _ (by simp;omega),VN _ _ _ _ (by simp;omega)]
def Oh{a:Zb}{t:Zf}(h:w.heap.size<W.heap.size)(g:n<w.heap.size)(e:W.heap[w.heap.size]?=some (.cells #[A,B,C] t))(d:aH n (W.alloc<|.cells #[u,z,a] t).drew x):
 (∀j,x.cell? ⟨w.heap.size,j,none⟩=#[A,B,C][j]?)/\(∀j,x.frozen? ⟨w.heap.size,j,none⟩=false)/\x.cell? ⟨W.heap.size,0,none⟩=some u/\x.cell? ⟨W.heap.size,1,none⟩=some z/\x.cell? ⟨W.heap.size,2,none⟩=some a/\w.heap.size<x.heap.size:=by
 have b:x.heap[w.heap.size]?=some (.cells #[A,B,C] t):=d.q (by omega)<|Av<|bA e _;have c:x.heap[W.heap.size]?=some (.cells #[u,z,a] t):=d.q (by omega)<|Av<|aM W _;exact⟨bC b,bF b,bC c 0,bC c 1,bC c 2,lB b⟩
def Ps(X:dD)(b:Nat)(L:6<=b)(F:b<=18){r:ai}(l:ai)(d:YW)(M:tM l.n)(N:tM r.n)(h:iZ w n i j<|r::l::d):Zc prog 221 #[qP n,qI ((b+2:Nat):Int)] w λe g=>e=.returned (jW<|fH b l r)/\iZ g n i j d/\KB i n w g:=by
 have K:=Z h;have x:Ze<|n<i/\i<=j/\j<=w.heap.size:=⟨h.1,h.2.1,h.2.2.1⟩;have G:n<w.heap.size:=by have:=x.o;omega
 have J:=Z<|Vq X L F l r M N;generalize fH b l r=o at*;obtain⟨P,R,Q,os,O⟩:=jS o;rw[O]at J ⊢;have Y:(((b+2:Nat):Int)==4)=false:=by simp;omega
 have g5:(((b+2:Nat):Int)==5)=false:=by simp;omega
 have g6:(((b+2:Nat):Int)==6)=false:=by simp;omega
 have g7:(((b+2:Nat):Int)==7)=false:=by simp;omega
 have B:=Z λg (k:iZ g n i j<|r::l::d)=>LN (l::d) k;have C:=Z λg (k:iZ g n i j<|l::d)=>LN d k;unfold vV at*;go_in;go_wp2_with fail;refine qR (B _<|K.below<|(VM w.heap.size w).alloc qZ _) ?_;rintro p⟨H,c⟩;have D:=Z H;have I:w.heap.size<p.heap.size:=by have:=c.size;simp at this;omega
 have q:Ze<|p.heap[w.heap.size]?=some (.cells #[qI 0,qI 0,.string ⟨#[]⟩] 34):=c.q (by omega)<|aM w _;have z:=Z<|KB.trans (KB.below ((VM w.heap.size w).alloc qZ _) (by have:=x.o;omega))<|c.c (base:=i) (by have:=x.o;simp;omega);have c1:=bC q;go_wp2
 go_region_with (first
  |(go_at_call 222;refine(C _<|D.below ((VM p.heap.size p).alloc qZ _).drew).mono ?_;rintro e w2⟨rfl,t,a⟩;have E:=Z t;have A:=Z a;obtain⟨S,q2,q3,q4,q5,T⟩:=Oh I G q a;clear t a)
  |(go_at_call 255;apply(J _).mono;rintro e V⟨rfl,a⟩;obtain⟨c3,W⟩:=dN a;have y:=Z a;have U:w.heap.size<V.heap.size:=(by have:=a.size;omega);clear a))
 all_goals
  go_wp2;have t:=A.o;have hs:=x.o;have a:=y.o;have u:=t.size;simp[Za.drew]at u;refine VI (v:=.tuple #[.agg #[qI P,qI R,.string os],qI Q]) ?_ rfl ⟨rfl,(E.below a).box (by omega) _ _ _,(((z.trans<|KB.below ((VM p.heap.size p).alloc (VR _) _).drew<|by omega).trans<|t.c (by simp[Za.drew];omega)).trans<|KB.below a<|by omega).box (by omega) _ _ _⟩;simp[Zh,results221,go_sem,c3,S,T,U]
def Po(y:n=2){v:ai}(G:tM v.n){a:Nat}(h:iZ w i j a<|v::I):Zc prog 221 #[qP i,qI ((n+2:Nat):Int)] w λe q=>e=.returned (jW<|il n v)/\iZ q i j a I/\KB j i w q:=by
 have D:=Z h;have p:Ze<|i<j/\j<=a/\a<=w.heap.size:=⟨h.1,h.2.1,h.2.2.1⟩;have E:i<w.heap.size:=by have:=p.o;omega
 have u:=Z λq (k:iZ q i j a<|v::I)=>LN I k;subst y;have B:=Z<|NX v G;have C:Ze<|il 2 v=mB v:=rfl;rw[C];generalize mB v=o at*;obtain⟨H,K,J,os,F⟩:=jS o;rw[F]at B ⊢;unfold vV at*;go_in;go_wp2_with fail;refine qR (u _<|D.below<|(VM w.heap.size w).alloc qZ _) ?_;rintro r⟨z,l⟩;have x:=Z z;have A:w.heap.size<r.heap.size:=by have:=l.size;simp at this;omega
 have b:Ze<|r.heap[w.heap.size]?=some (.cells #[qI 0,qI 0,.string ⟨#[]⟩] 34):=l.q (by omega)<|aM w _;have t:=Z<|KB.trans (KB.below ((VM w.heap.size w).alloc qZ _) (by have:=p.o;omega))<|l.c (base:=j) (by have:=p.o;simp;omega);have c1:=bC b;have N:=bF b;go_wp2_with fail;apply qR<|B _;rintro M (c:Ze _);obtain⟨c3,O⟩:=dN c;have L:w.heap.size<M.heap.size:=by have:=c.size;simp at this;omega
 go_wp2_with fail;have g:=((VM r.heap.size r).alloc qZ _).trans<|c.mono (by simp);have hs:=p.o;have d:=bC<|bB g A b;refine VI (v:=.tuple #[.agg #[qI H,qI K,.string os],qI J]) ?_ rfl ⟨rfl,(x.below g).box (by omega) _ _ _,(t.trans<|KB.below g<|by omega).box (by omega) _ _ _⟩;simp[Zh,results221,go_sem,d,L]
def Pp(z:n=3){v:ai}(N:tM v.n){b:Nat}(h:iZ w i j b<|v::I):Zc prog 221 #[qP i,qI ((n+2:Nat):Int)] w λe r=>e=.returned (jW<|il n v)/\iZ r i j b I/\KB j i w r:=by
 have E:=Z h;have q:Ze<|i<j/\j<=b/\b<=w.heap.size:=⟨h.1,h.2.1,h.2.2.1⟩;have G:i<w.heap.size:=by have:=q.o;omega
 have x:=Z λr (k:iZ r i j b<|v::I)=>LN I k;subst z;have C:=Z<|LJ v;have D:Ze<|jW (il 3 v)=.tuple #[vV<|oq v,qI 0]:=rfl;rw[D];generalize oq v=o at*;have F:∃a m:Int,∃s:Y9,vV o=.agg #[qI a,qI m,.string s]:=⟨_,_,_,rfl⟩;obtain⟨O,P,os,H⟩:=F;rw[H]at C ⊢;unfold vV at*;go_in;go_wp2_with fail;refine qR (x _<|E.below<|(VM w.heap.size w).alloc qZ _) ?_;rintro t⟨A,p⟩;have y:=Z A;have B:w.heap.size<t.heap.size:=by have:=p.size;simp at this;omega
 have c:Ze<|t.heap[w.heap.size]?=some (.cells #[qI 0,qI 0,.string ⟨#[]⟩] 34):=p.q (by omega)<|aM w _;have u:=Z<|KB.trans (KB.below ((VM w.heap.size w).alloc qZ _) (by have:=q.o;omega))<|p.c (base:=j) (by have:=q.o;simp;omega);have c1:=bC c;have L:=bF c;go_wp2_with fail;apply qR<|C _;rintro K (g:Ze _);obtain⟨c3,M⟩:=dN g;have J:w.heap.size<K.heap.size:=by have:=g.size;simp at this;omega
 go_wp2_with fail;have l:=((VM t.heap.size t).alloc qZ _).trans<|g.mono (by simp);have hs:=q.o;have d:=bC<|bB l B c;refine VI (v:=.tuple #[.agg #[qI o.aC,qI o.n,qT o.s],qI 0]) ?_ rfl ⟨rfl,(y.below l).box (by omega) _ _ _,(u.trans<|KB.below l<|by omega).box (by omega) _ _ _⟩;simp[Zh,results221,go_sem,d,J]
def Pn(r:n=4\/n=5){v:ai}(W:tM v.n){c:Nat}(h:iZ w i j c<|v::I):Zc prog 221 #[qP i,qI ((n+2:Nat):Int)] w λe x=>e=.returned (jW<|il n v)/\iZ x i j c I/\KB j i w x:=by
 have K:=Z h;have u:Ze<|i<j/\j<=c/\c<=w.heap.size:=⟨h.1,h.2.1,h.2.2.1⟩;have N:i<w.heap.size:=by have:=u.o;omega
 have A:=Z λx (k:iZ x i j c<|v::I)=>LN I k;have H:=Z<|jP v;have C:=Z<|yC<|v.c==(n==4);have J:Ze<|jW (il n v)=.tuple #[vV<|bh<|v.c==(n==4),qI 0]:=by obtain rfl|rfl:=r<;>rfl
 rw[J];generalize v.c=F at*;have O:∃b,(F==(n==4))=b:=⟨_,rfl⟩;obtain⟨L,p⟩:=O;rw[p]at C ⊢;have M:∃a m:Int,∃s:Y9,vV (bh L)=.agg #[qI a,qI m,.string s]:=⟨_,_,_,rfl⟩;obtain⟨P,Q,os,d⟩:=M;rw[d]at C ⊢;clear d;obtain rfl|rfl:=r;all_goals
  cases F<;>simp at p<;>subst p
 all_goals
  unfold vV at*;go_in;go_wp2_with fail;refine qR (A _<|K.below<|(VM w.heap.size w).alloc qZ _) ?_;rintro t⟨D,q⟩;have B:=Z D;have E:w.heap.size<t.heap.size:=by have:=q.size;simp at this;omega
  have d:Ze<|t.heap[w.heap.size]?=some (.cells #[qI 0,qI 0,.string ⟨#[]⟩] 34):=q.q (by omega)<|aM w _;have z:=Z<|KB.trans (KB.below ((VM w.heap.size w).alloc qZ _) (by have:=u.o;omega))<|q.c (base:=j) (by have:=u.o;simp;omega);have c1:=bC d;have T:=bF d;go_wp2_with fail;apply qR<|H _;intro G o;obtain⟨c2,U⟩:=dN o;have y:=Z o;have Y:t.heap.size+1<=G.heap.size:=by have:=o.size;simpa using this
  go_wp2_with apply qR (C _);rintro S (g:Ze _);obtain⟨c3,V⟩:=dN g;have X:w.heap.size<G.heap.size:=by omega
  have R:w.heap.size<S.heap.size:=by have:=g.size;omega
  go_wp2_with fail;have l:=(((VM t.heap.size t).alloc qZ _).trans<|y.mono<|by simp).trans<|g.mono (by omega);have hs:=u.o;refine VI (v:=.tuple #[.agg #[qI P,qI Q,.string os],qI 0]) ?_ rfl ⟨rfl,(B.below l).box (by omega) _ _ _,(z.trans<|KB.below l<|by omega).box (by omega) _ _ _⟩;simp[Zh,results221,go_sem,bC<|bB l E d,R]
def Pq(a:Nat)(g:2<=a)(j:a<=5){v:ai}(b:tM v.n)(c:YW)(h:iZ w n k i<|v::c):Zc prog 221 #[qP n,qI ((a+2:Nat):Int)] w λe d=>e=.returned (jW<|il a v)/\iZ d n k i c/\KB k n w d:=by
 by_cases h:a=2
 .exact Po h b ‹_›
 by_cases h:a=3
 .exact Pp h b ‹_›
 exact Pn (by omega) b ‹_›
def kS{e:Nat}(h:fe a=.error e):e=4\/e=5:=by unfold fe at h;split at h<;>cases h;exact .inl rfl
def Cx{e:Nat}(h:dd n a M=.error e):e=4\/e=5:=by
 unfold dd at h;split at h
 .exact kS h
 split at h
 .exact kS h
 split at h
 .exact kS h
 split at h
 .cases h;exact .inr rfl
 split at h
 .cases h
 exact kS h
def Ar{v:ai}{e:Nat}(h:il n v=.error e):e=4\/e=5:=by
 unfold il mB at h;split at h
 .split at h
  .cases h
  exact kS h
 split at h<;>cases h
def As{l r:ai}{e:Nat}(h:fH n l r=.error e):e=4\/e=5:=by
 unfold fH at h;split at h
 .cases h
 split at h
 .cases h
 split at h
 .exact Cx h
 cases h
def Jq{a:List cQ}{x:aV ai}(h:cF a I n i J=some x)(c:a.length<=i):∃v b,J=v::b/\x=.ok v:=by
 cases n with
 |zero=>simp[cF]at h
 |succ n=>
  unfold cF at h;rw[V7 c]at h;cases J with
  |nil=>simp at h
  |cons v J=>simp at h;exact⟨v,J,rfl,h.symm⟩
def GN{a:List cQ}{x:aV ai}{c:cQ}(h:cF a I n i J=some x)(d:a[i]?=some c):∃g,n=g+1 /\
 ((c.aC=0/\cF a I g (i+1) (c.v::J)=some x) \/
  (c.aC=1/\c.place<I.length/\cF a I g (i+1) (I.getD c.place aE::J)=some x) \/
  (∃v b,J=v::b/\(c.aC=2\/c.aC=3)/\cF a I g (@ite _ (v=bh (c.aC==3)) (j3 v<|bh<|c.aC==3) c.place<|i+1) J=some x) \/
  (∃v b,J=v::b/\4<=c.aC/\c.aC<=7/\((∃e,il (c.aC-2) v=.error e/\x=.error e)\/∃u,il (c.aC-2) v=.ok u/\cF a I g (i+1) (u::b)=some x)) \/
  (∃v u b,J=v::u::b/\8<=c.aC/\((∃e,fH (c.aC-2) u v=.error e/\x=.error e)\/∃y,fH (c.aC-2) u v=.ok y/\cF a I g (i+1) (y::b)=some x))):=by
 cases n with
 |zero=>simp[cF]at h
 |succ n=>
  refine⟨n,rfl,?_⟩;by_cases j:c.aC=0
  .rw[zt d j]at h;exact .inl ⟨j,h⟩
  by_cases k:c.aC=1
  .by_cases l:c.place<I.length
   .rw[zr d k l]at h;exact .inr<|.inl ⟨k,l,h⟩
   unfold cF at h;rw[d]at h;simp only at h;rw[VF j,VG k,VF l]at h;cases h
  cases J with
  |nil=>unfold cF at h;rw[d]at h;simp only at h;rw[VF j,VF k]at h;cases h
  |cons v b=>
   by_cases l:c.aC=2\/c.aC=3
   .rw[xO d l]at h;refine .inr<|.inr<|.inl ⟨v,b,rfl,l,?_⟩;split at h
    .rw[VG ‹_›];exact h
    rw[VF ‹_›];exact h
   by_cases o:c.aC<=7
   .rw[zu d (by omega) o]at h;refine .inr<|.inr<|.inr<|.inl ⟨v,b,rfl,by omega,o,?_⟩;cases ha:il (c.aC-2) v with
    |error e=>rw[ha]at h;simp at h;exact .inl ⟨e,rfl,h.symm⟩
    |ok u=>rw[ha]at h;exact .inr ⟨u,rfl,h⟩
   cases b with
   |nil=>unfold cF at h;rw[d]at h;simp only at h;rw[VF j,VF k,VF l,VF o]at h;cases h
   |cons u st2=>
    rw[td d<|by omega]at h;refine .inr<|.inr<|.inr<|.inr ⟨v,u,st2,rfl,by omega,?_⟩;cases ha:fH (c.aC-2) u v with
    |error e=>rw[ha]at h;simp at h;exact .inl ⟨e,rfl,h.symm⟩
    |ok y=>rw[ha]at h;exact .inr ⟨y,rfl,h⟩
def rK(c:cQ):Y0:=[qI c.aC,qI c.v.aC,qI c.v.n,qT c.v.s,qI c.place]
def br{α:Type}(w:Za)(hi n:Nat)(f:α->Y0)(xs:List α)(v:Zb):Prop:=
 ∃a cap,v=.slice a xs.length cap/\(xs≠[]->∃g,a=some ⟨g,0,none⟩/\g<hi/\∀i c,xs[i]?=some c->∀j u,(f c)[j]?=some u->w.cell? ⟨g,i*n+j,none⟩=some u)
def br.aL{α:Type}{w':Za}{b:Nat}{f:α->Y0}{e:List α}{v:Zb}(h:br w b n f e v)(q:∀k,k<b->w'.heap[k]?=w.heap[k]?):br w' b n f e v:=by obtain⟨a,cap,rfl,l⟩:=h;refine⟨a,cap,rfl,λr=>?_⟩;obtain⟨g,rfl,d,o⟩:=l r;exact⟨g,rfl,d,λi c p j u t=>(VK<|q g d).trans<|o i c p j u t⟩
def br.ins{b:List cQ}{v:Zb}(h:br w n 5 rK b v){c:cQ}(d:b[i]?=some c):∃g cap,v=qL g b.length cap/\g<n /\
 w.cell? ⟨g,i*5,none⟩=some (qI c.aC)/\w.cell? ⟨g,i*5+1,none⟩=some (qI c.v.aC)/\w.cell? ⟨g,i*5+2,none⟩=some (qI c.v.n)/\w.cell? ⟨g,i*5+3,none⟩=some (qT c.v.s)/\w.cell? ⟨g,i*5+4,none⟩=some (qI c.place):=by
 obtain⟨a,cap,rfl,j⟩:=h;obtain⟨g,rfl,k,e⟩:=j (by rintro rfl;simp at d);exact⟨g,cap,rfl,k,e i c d 0 _ rfl,e i c d 1 _ rfl,e i c d 2 _ rfl,e i c d 3 _ rfl,e i c d 4 _ rfl⟩
def br.val{v:Zb}(h:br w n 3 vC I v){i:Nat}(b:i<I.length):∃g cap,v=qL g I.length cap/\g<n /\
 w.cell? ⟨g,i*3,none⟩=some (qI (I.getD i aE).aC)/\w.cell? ⟨g,i*3+1,none⟩=some (qI (I.getD i aE).n)/\w.cell? ⟨g,i*3+2,none⟩=some (.string ⟨(I.getD i aE).s.toArray⟩):=by
 obtain⟨a,cap,rfl,e⟩:=h;obtain⟨g,rfl,j,c⟩:=e (by rintro rfl;simp at b);have d:I[i]?=some (I.getD i aE):=by simp[List.getD,VE b]
 exact⟨g,cap,rfl,j,c i _ d 0 _ rfl,c i _ d 1 _ rfl,c i _ d 2 _ rfl⟩
def H_(w wr:Za)(sb base:Nat)(code:List cQ)(row:YW)(x:aV ai)(g i:Nat)(st:YW):Prop:=
 iZ wr sb base wr.heap.size st/\KB base sb w wr/\(∀v∈st,dv v)/\st.length+g<=1048576/\cF code row g i st=some x
def BJ(w:Za)(cv:Zb):Za:=((w.alloc<|.cells #[cv] 204).alloc<|.cells #[qI 0,qI 0,.string ⟨#[]⟩] 34).alloc<|.cells #[qN] 332
def Du(w:Za)(a:Zb):(BJ w a).heap.size=w.heap.size+3:=by simp[BJ]
def BK(w:Za)(a:Zb):qB w<|BJ w a:=(((VM w.heap.size w).alloc qZ _).alloc (by simp) _).alloc (by simp;omega) _
def GM(w:Za)(a:Zb):(BJ w a).heap[w.heap.size]?=some (.cells #[a] 204)/\(BJ w a).heap[w.heap.size+1]?=some (.cells #[qI 0,qI 0,.string ⟨#[]⟩] 34)/\(BJ w a).heap[w.heap.size+1+1]?=some (.cells #[qN] 332):=by refine⟨bA (bA (aM _ _) _) _,bA (iL _ _<|by simp) _,iL _ _<|by simp⟩
def H_.boxes{wr:Za}{a:List cQ}{x:aV ai}(h:H_ (BJ w u) wr (w.heap.size+1+1) (w.heap.size+1+1+1) a I x n i J):
 wr.heap[w.heap.size]?=some (.cells #[u] 204)/\wr.heap[w.heap.size+1]?=some (.cells #[qI 0,qI 0,.string ⟨#[]⟩] 34)/\w.heap.size+1+1<wr.heap.size/\(∀k,k<w.heap.size->wr.heap[k]?=w.heap[k]?):=by
 obtain⟨c,d,e⟩:=GM w u;have hk:=h.2.1;have hs:=hk.size;rw[Du]at hs;refine⟨by rw[hk.block _ (by omega)<|by omega];exact c,by rw[hk.block _ (by omega)<|by omega];exact d,by omega,λk b=>?_⟩;rw[hk.block k (by omega)<|by omega];exact(BK w u).block k b
def H_.next{wr w2:Za}{a:List cQ}{x:aV ai}{c:Nat}{st2:YW}(h:H_ w wr n k a I x (j+1) i J)(d:KB k n wr w2)(g:iZ w2 n k w2.heap.size st2)(b:∀v∈st2,dv v)(l:st2.length<=J.length+1)(e:cF a I j c st2=some x):H_ w w2 n k a I x j c st2:=
 ⟨g,h.2.1.trans d,b,by have:=h.2.2.2.1;omega,e⟩
def Dv(h:KB (w.heap.size+1+1+1) (w.heap.size+1+1) (BJ w u) W):qB w W:=by have a:=BK w u;exact⟨h.os.trans a.os,h.tape.trans a.tape,h.output.trans a.output,Wf a.size h.size,λk hk=>(h.block k (by omega)<|by omega).trans<|a.block k hk⟩
def runM(X:dD){j:List cQ}(g:∀c∈j,dv c.v/\c.aC<=20)(ab:j.length<=1048576)(n:gY I){f:Nat}(i:f<=1048576){x:aV ai}(o:cF j I f 0 []=some x)(b:br w w.heap.size 5 rK j A)(d:br w w.heap.size 3 vC I B):Zc prog 162 #[.agg #[A],B] w<|qF (jW x) w:=by
 have HC:=Z b;have HR:=Z d;have L:=Z g;have M:=Z n;have T:∃a cap,A=.slice a j.length cap:=by obtain⟨a,cap,h,_⟩:=b;exact⟨a,cap,h⟩
 have V:∃a cap,B=.slice a I.length cap:=by obtain⟨a,cap,h,_⟩:=d;exact⟨a,cap,h⟩
 obtain⟨O,P,rfl⟩:=T;obtain⟨ra,rc,rfl⟩:=V;have l:Ze<|H_ (BJ w<|.slice O j.length P) (BJ w<|.slice O j.length P) (w.heap.size+1+1) (w.heap.size+1+1+1) j I x f 0 []:=by refine⟨⟨by omega,by rw[Du];omega,qZ,by simp,_,(GM w _).2.2,VP _ _ _ _,λk hk=>by cases hk⟩,KB.refl _ _ _,by simp,by simpa using i,o⟩
 clear b d g n o i;go_in;go_wp2
 go_loopg [7] f (λg s7 wr=>∃i Y,s7=.int .i64 ((i:Nat):Int)/\Ze (H_ (BJ w<|.slice O j.length P) wr (w.heap.size+1+1) (w.heap.size+1+1+1) j I x g i Y))
 exact⟨0,[],rfl,l⟩;obtain⟨i,Y,rfl,b⟩:=hrel;clear l;obtain⟨k,l,hz,d⟩:=b.boxes;have c0:=bC k;have q:=Z l;have t:=Z d;have⟨ah,aj⟩:w.heap.size<wr.heap.size/\w.heap.size+1<wr.heap.size:=by omega
 clear k l d;by_cases hi:i<j.length
 .have F:j[i]?=some j[i]:=VE hi;have ag:wrap64 ((i:Int)+1)=i+1:=by unfold wrap64;omega
  obtain⟨S,aa⟩:=L.o _<|VQ hi;generalize j[i]=c at*;obtain⟨g,cap,he,hg,Q,e1,e2,e3,e4⟩:=(HC.aL t).ins F;cases he;have ac:g<wr.heap.size:=by omega
  obtain⟨R,rfl,l⟩:=GN b.2.2.2.2 F;obtain l|⟨v,n,rfl,hk,p⟩|l:=or_assoc.2 l
  .obtain⟨hk,p⟩|⟨hk,C,p⟩:=l
   focus
    have d:=S;generalize c.v=y at*
   rotate_left
   focus
    obtain⟨J,E,z,K,U,W,d2⟩:=(HR.aL t).val C;cases z;have d:=A6 M c.place;generalize I.getD c.place aE=y at*;have G:J<wr.heap.size:=by omega
   all_goals
    have o:=Z λN (k:iZ N (w.heap.size+1+1) (w.heap.size+1+1+1) wr.heap.size Y)=>Ra y k (by have:=b.2.2.2.1;omega);unfold vV at o;rw[hk]at Q;go_wp2_with fail;refine qR (o _<|b.1.below<|(VM wr.heap.size wr).alloc qZ _) ?_;rintro w2⟨u,r⟩;have H:=Z<|b.next ((KB.below ((VM wr.heap.size wr).alloc qZ _)<|by omega).trans r) u (by intro y D;obtain rfl|D:=V8.1 D;exact d;exact b.2.2.1 y D) (by simp) p;clear u r;go_wp2
    go_roundg R
    case measure=>omega
    case rel=>exact⟨i+1,_,by simp,H⟩
  .have z:=Z λG (k:iZ G (w.heap.size+1+1) (w.heap.size+1+1+1) wr.heap.size<|v::n)=>UN n k;obtain⟨u,o⟩:∃u,(c.aC==3)=u:=⟨_,rfl⟩;rw[o]at p;have C:=Z<|yC u;have D:=yW v<|bh u;have E:=tA;unfold vV at z C;by_cases d:v=bh u
   focus
    rw[ai.d d]at D;rw[VG d]at p
   rotate_left
   focus
    rw[ai.l d]at D;rw[VF d]at p
   all_goals
    clear d;obtain hk|hk:=hk;all_goals
     rw[hk]at Q o
     first|obtain rfl:false=u:=o|obtain rfl:true=u:=o
     go_wp2
     go_region_with (first
      |(go_at_call 219;refine(z _<|by first|exact b.1.below ((VM wr.heap.size wr).alloc qZ _).drew|exact(b.1.below<|((VM wr.heap.size wr).alloc qZ _).drew.trans<|r.mono<|by simp[Za.drew])).mono ?_;rintro e H⟨rfl,d⟩;obtain⟨K,U⟩:=dN d;have y:=Z d;have q8:wr.heap.size<H.heap.size:=(by have:=d.size;(try simp[Za.drew]at this);omega);clear d)
      |(go_at_call 220;apply(C _).mono;rintro e J⟨rfl,d⟩;obtain⟨N,W⟩:=dN d;have r:=Z d;have q9:wr.heap.size<J.heap.size:=(by have:=d.size;(try simp[Za.drew]at this);omega);clear d))
     all_goals
      go_wp2
      first
       |have hB:=(((VM wr.heap.size wr).alloc qZ _).drew.trans<|y.mono<|by simp[Za.drew]).trans<|r.mono<|by omega
       |have hB:=(((VM wr.heap.size wr).alloc qZ _).drew.trans<|r.mono<|by simp[Za.drew]).trans<|y.mono<|by omega
      have d:=Z<|b.next (st2:=v::n) (KB.below hB<|by omega) (b.1.below hB).up b.2.2.1 (by simp) p
      go_roundg R
      case measure=>omega
      case rel=>exact⟨_,_,by simp,d⟩
  obtain⟨v,n,rfl,ad,ae,p⟩|⟨v,u,n,rfl,af,p⟩:=l;all_goals
   obtain⟨op,U⟩:∃op,c.aC=op+2:=⟨c.aC-2,by omega⟩;rw[U]at Q p;rw[show op+2-2=op by omega]at p;have n0:(((op+2:Nat):Int)==0)=false:=by simp;omega
   have n1:(((op+2:Nat):Int)==1)=false:=by simp;omega
   have n2:(((op+2:Nat):Int)==2)=false:=by simp;omega
   have n3:(((op+2:Nat):Int)==3)=false:=by simp;omega
   first
    |have C:=Z λH (k:iZ H (w.heap.size+1+1) (w.heap.size+1+1+1) wr.heap.size<|v::n)=>Pq op (by omega) (by omega) (b.2.2.1 v<|by simp).range n k
    |have C:=Z λH (k:iZ H (w.heap.size+1+1) (w.heap.size+1+1+1) wr.heap.size<|v::u::n)=>Ps X op (by omega) (by omega) u n (b.2.2.1 u<|by simp).range (b.2.2.1 v<|by simp).range k
   obtain⟨E,o,rfl⟩|⟨y,o,p⟩:=p
   .have G:(E:Int)≠0:=by first|(have:=Ar o;omega)|(have:=As o;omega)
    have K:((E:Int) != 0)=true:=by simpa using G
    rw[o]at C;have N:Ze<|jW (.error E)=.tuple #[.agg #[qI 0,qI 0,.string ⟨#[]⟩],qI (E:Nat)]:=rfl;rw[N]at C;go_wp2_with fail;refine qR (C _<|b.1.below<|(VM wr.heap.size wr).alloc qZ _) ?_;rintro w2⟨J,D⟩;have z:=Z<|(KB.below (sb:=w.heap.size+1+1) (base:=w.heap.size+1+1+1) ((VM wr.heap.size wr).alloc qZ _)<|by omega).trans D;have r:w2.heap[w.heap.size+1]?=some (.cells #[qI 0,qI 0,.string ⟨#[]⟩] 34):=by rw[z.block _ (by omega)<|by omega];exact q
    have d:=bC r;have fz:=bF r;have W:=lB r;clear J D r;go_wp2;have r:=Dv<|b.2.1.trans z;refine VI (v:=.tuple #[.agg #[.int .i64 0,.int .i64 0,.string ⟨#[]⟩],.int .i64 (E:Nat)]) ?_ rfl ⟨rfl,(gJ r<|by omega).alloc (by rw[size_set,size_set,size_set];exact r.size) _⟩;simp[Zh,results162,go_sem,d,W]
   .first|have d:=Dl (b.2.2.1 v<|by simp) o|have d:=Dm (b.2.2.1 u<|by simp) (b.2.2.1 v<|by simp) o
    rw[o]at C;have HV:Ze<|jW (.ok y)=.tuple #[.agg #[qI y.aC,qI y.n,qT y.s],qI 0]:=rfl;rw[HV]at C;go_wp2_with fail;refine qR (C _<|b.1.below<|(VM wr.heap.size wr).alloc qZ _) ?_;rintro J⟨z,r⟩;have ak:w.heap.size+1+1<J.heap.size:=by have:=r.size;simp at this;omega
    have N:=Z z;have K:=Z<|(KB.below (sb:=w.heap.size+1+1) (base:=w.heap.size+1+1+1) ((VM wr.heap.size wr).alloc qZ _)<|by omega).trans r;have D:=Z λH (k:iZ H (w.heap.size+1+1) (w.heap.size+1+1+1) wr.heap.size n)=>Ra y k (by have:=b.2.2.2.1;simp at this;omega);unfold vV at D;clear z r;go_wp2_with fail;refine qR (D _<|N.below<|(VM J.heap.size J).alloc qZ _) ?_;rintro w3⟨G,r⟩;have HN:=Z<|b.next ((K.trans<|KB.below ((VM J.heap.size J).alloc qZ _)<|by omega).trans r) G (by intro z W;obtain rfl|W:=V8.1 W;exact d;exact b.2.2.1 z<|by simp[W]) (by simp) p;clear G r;go_wp2
    go_roundg R
    case measure=>omega
    exact⟨i+1,_,by simp,HN⟩
 obtain⟨v,o,rfl,rfl⟩:=Jq b.2.2.2.2 (by omega);have p:=Z<|LN o b.1;unfold vV at p;go_wp2_with fail;apply qR p;rintro y⟨n,k⟩;have l:=Z k;have d:=bC<|k.q (by omega) q;have u:=bF<|k.q (by omega) q;have r:=lB<|k.q (by omega) q;clear n k;go_wp2_with fail;refine VI (v:=.tuple #[.agg #[.int .i64 v.aC,.int .i64 v.n,.string ⟨v.s.toArray⟩],.int .i64 0]) ?_ rfl ⟨rfl,gJ (Dv<|b.2.1.trans<|l.c<|by omega)<|by omega⟩;simp[Zh,results162,go_sem,d,r]
def uh:aV ai->Zb
 |.ok v=>.tuple #[.bool<|ai.same v<|bh true,qI 0]
 |.error e=>.tuple #[.bool false,qI (e:Nat)]
def IB(x:aV ai):∃v:ai,∃e:Int,jW x=.tuple #[vV v,qI e]/\uh x=.tuple #[.bool<|ai.same v<|bh true,qI e]:=by
 cases x with
 |error e=>exact⟨aE,e,rfl,by simp[uh,aE,bh,ai.same]⟩
 |ok v=>exact⟨v,0,rfl,rfl⟩
def Qk{x:aV ai}(d k:Zb)(w:Za)(b:∀j,qB w j->Zc prog 162 #[.agg #[d],k] j (qF (jW x) j)):Zc prog 163 #[.agg #[d],k] w<|qF (uh x) w:=by
 obtain⟨v,u,p,o⟩:=IB x;rw[o];rw[p]at b;have n:=yW v<|bh true;have l:=tA;have h:=Z<|yC true;unfold vV at*;go_in;go_wp2_with fail;refine qR (Z<|b _<|(VM w.heap.size w).alloc qZ<|.cells #[d] 204) ?_;intro q i;have c:=Z<|((VM w.heap.size w).alloc qZ<|.cells #[d] 204).trans<|i.mono (by simp);go_wp2_with fail
 go_region_with (go_at_call 220;apply(h _).mono;rintro e r⟨rfl,a⟩;obtain⟨t,y⟩:=dN a;have g:=Z a;have z:q.heap.size<r.heap.size:=(by have:=a.size;(try simp[Za.drew]at this);omega);clear a)
 all_goals go_wp2_with fail
 all_goals
  refine VI (by simp[Zh,results163,go_sem]) rfl ⟨rfl,?_⟩;exact((c.alloc c.size _).drew).trans (g.mono (by have:=c.size;simp[Za.drew];omega))
def lS(c:ah):Y0:=[qT c.src,qT c.name,qI c.type]
def lR(code:List cQ):Y0:=code.flatMap rK
def C2(a:List cQ):(lR a).length=a.length*5:=by
 induction a with
 |nil=>rfl
 |cons c cs ih=>
  show(rK c++lR cs).length=_;rw[VH,ih];simp[rK];omega
def x9(a b:List cQ):lR (a++b)=lR a++lR b:=by simp[lR]
def C3(c:cQ):lR [c]=rK c:=by simp[lR]
def i4(w:Za):Prop:=∀op:Nat,2<=op->op<=18->w.cell? ⟨9,op*3,none⟩=some (qI ((op+2:Nat):Int))/\w.cell? ⟨9,op*3+1,none⟩=some (qI<|cD op)/\w.cell? ⟨9,op*3+2,none⟩=some (qI<|eR op)
def i4.aL{w':Za}(h:i4 w)(b:w'.heap[9]?=w.heap[9]?):i4 w':=by intro op c a;have:=h op c a;exact⟨(VK b).trans this.1,(VK b).trans this.2.1,(VK b).trans this.2.2⟩
structure KP(P:Y7)(w w':Za):Prop where
 os:w'.os=w.os
 tape:w'.tape=w.tape
 output:w'.output=w.output
 size:w.heap.size<=w'.heap.size
 block:∀k,P k->w'.heap[k]?=w.heap[k]?
def KP.refl(P:Y7)(w:Za):KP P w w:=⟨rfl,rfl,rfl,qZ,λ_ _=>rfl⟩
def KP.trans{P:Y7}(h:KP P w W)(k:KP P W x):KP P w x:=
 ⟨k.os.trans h.os,k.tape.trans h.tape,k.output.trans h.output,Wf h.size k.size,λi hi=>(k.block i hi).trans<|h.block i hi⟩
def KP.mono{P:Y7}(h:KP P w W)(a:∀k,G k->P k):KP G w W:=⟨h.os,h.tape,h.output,h.size,λk hk=>h.block k<|a k hk⟩
def KP.below{P:Y7}(h:qB w W)(a:∀k,P k->k<w.heap.size):KP P w W:=⟨h.os,h.tape,h.output,h.size,λk hk=>h.block k<|a k hk⟩
def KP.set{P:Y7}(h:KP P w W){p:Addr}(a:¬P p.block)(v:Zb):KP P w<|W.setCell p v:=
 ⟨h.os,h.tape,h.output,by rw[size_set];exact h.size,λk hk=>(VN _ _ _ _ λe=>a<|e▸hk).trans<|h.block k hk⟩
def KP.q{P:Y7}(h:KP P w W){o:Obj}(b:P k)(a:w.heap[k]?=some o):W.heap[k]?=some o:=(h.block k b).trans a
def Vy(P:Y7)(a b:Nat):Nat->Prop:=λk=>P k\/(a<=k/\k<b)
def jM(w:Za)(cb:Nat)(P:Y7)(ab:YY)(code:List cQ):Prop:=(∀k,P k->k<w.heap.size/\k≠cb)/\(∀k,k<cb->P k)/\code.length<=1048576/\9<cb/\i4 w /\
 ∃cv v,w.heap[cb]?=some (.cells #[cv,v] 362)/\br w cb 3 lS ab cv/\w.ownsRow (cb+1) 335 5 v code.length (lR code)/\∀k,v.ownBlock=some k->¬P k
def jM.lt{P:Y7}{a:List cQ}(h:jM w n P F a):n<w.heap.size:=by obtain⟨_,_,_,_,_,cv,v,b,_⟩:=h;exact lB b
def jM.below{P:Y7}{a:List cQ}(h:jM w n P F a)(b:qB w W):jM W n (Vy P w.heap.size W.heap.size) F a:=by
 have j:=h.lt;obtain⟨r,t,u,o,l,cv,v,x,z,e,y⟩:=h;refine⟨λk hk=>?_,λk hk=>.inl<|t k hk,u,o,l.aL<|b.block _<|by omega,cv,v,bB b j x,z.aL λk hk=>b.block k<|by omega,⟨e.1,?_⟩,λk hk c=>?_⟩
 .obtain hk|⟨g,hk⟩:=hk
  .have d:=r k hk;have:=b.size;exact⟨by omega,d.2⟩
  exact⟨hk,by omega⟩
 .obtain q|⟨g,cap,d,rfl,i,p,l⟩:=e.2
  .exact .inl q
  exact .inr ⟨g,cap,d,rfl,i,bB b (lB p) p,l⟩
 obtain c|⟨c,_⟩:=c
 .exact y k hk c
 have:=(e.lt k hk).2;omega
def jM.less{P:Y7}{a:List cQ}(h:jM w n P F a)(d:∀k,G k->P k)(o:∀k,k<n->G k):jM w n G F a:=by obtain⟨e,r,g,c,q,cv,v,i,b,j,l⟩:=h;exact⟨λk hk=>e k<|d k hk,o,g,c,q,cv,v,i,b,j,λk hk p=>l k hk<|d k p⟩
def jM.back{P:Y7}{a:List cQ}(h:jM w n (Vy P i j) F a)(b:∀k,k<n->P k):jM w n P F a:=h.less (λk hk=>.inl hk) b
def PT:(prog.info? 335).map (λi=>(i.zero,i.size,i.bytes))=some (some<|.agg #[qI 0,qI 0,qI 0,.string ⟨#[]⟩,qI 0],5,48):=by kernel_rfl
def kE{P:Program}{q:Array Oper}{o:Oper}{a:Act}{K:Act->Za->Prop}{Q:Exit->Act->Za->Prop}{E:Prop}
 (V:o.guard=none)(s x:Operand){t:Zf}(D:o.op=Op.call {callee:=Callee.builtin Builtin.append,args:=#[s,x],argTypes:=#[t,t]})
 {h:Nat}{e:Zf}(i:TypeInfo){z:Zb}{b g:Nat}(I:P.underlying t=some (.slice e))(J:P.info? e=some i)(L:i.zero=some z)(M:i.size=b)(N:i.bytes=g)(O:z.cells.size=b)(R:0<b)
 {v:Zb}{n:Nat}{F:Y0}(X:a.eval s=v)(l:w.ownsRow h e b v n F)
 (B:Addr)(m c:Nat)(d:Y0)(Z:a.eval x=.slice (some B) m c)(W:d.length=m*b)(U:∀j u,d[j]?=some u->w.cell? (B.add j)=some u)(C:∀u∈d,u.oneCell'=true)
 (G:n+m<=Zj)(H:(n+m)*g<=140737488355328)(T:h<=w.heap.size)
 (S:∀y A,A.ownsRow h e b y (n+m) (F++d)->w.grownBy A v.ownBlock->(∀k,y.ownBlock=some k->v.ownBlock=some k\/w.heap.size<=k)->K (a.put o.dst y) A):
 if Region.wanted o (yielded q a.tmps)=true then Oper.wp P o a w K Q else E:=by
 have Y:Region.wanted o (yielded q a.tmps)=true:=by simp[Region.wanted,V]
 rw[VG Y];obtain⟨y,A,p,r1,r2,_,r⟩:=run_append_own_at (P:=P) w h t o.type e i z b g I J L M N O R v n F l B m c d W U C G H T;unfold Oper.wp;simp[execOp,D,resolve,invoke,builtin,X,Z,p,Result.andThen];refine S y A r1 r2 λk hk=>?_;obtain r|r:=r
 .exact .inl<|r▸hk
 .rw[r]at hk;cases hk;exact .inr qZ
def M0{w1 w2:Za}{P:Y7}{v':Zb}{c:cQ}{a:List cQ}(l:∀k,P k->k<w.heap.size/\k≠n)(y:∀k,k<n->P k)(H:a.length+1<=1048576)(x: 9<n)(I:i4 w)(p:w.heap[n]?=some (.cells #[u,z] 362))
 (B:br w n 3 lS F u)(t:w.ownsRow (n+1) 335 5 z a.length<|lR a)(G:∀k,z.ownBlock=some k->¬P k)(b:qB w w1)(j:w2.ownsRow (n+1) 335 5 v' (a.length+1)<|lR a++rK c)(q:w1.grownBy w2 z.ownBlock)(C:∀k,v'.ownBlock=some k->z.ownBlock=some k\/w1.heap.size<=k):
 w2.heap[n]?=some (.cells #[u,z] 362)/\jM (w2.setCell ⟨n,1,none⟩ v') n P F (a++[c])/\KP P w (w2.setCell ⟨n,1,none⟩ v'):=by
 have r:=lB p;have K:=b.size;have J:=q.size;have E:∀k,z.ownBlock=some k->n+1<=k:=λk b=>(t.lt k b).1;have d:∀k,k<w.heap.size->z.ownBlock≠some k->w2.heap[k]?=w.heap[k]?:=λk r D=>by rw[q.block k (by omega) λe=>D e.symm];exact b.block k<|by omega
 have o:w2.heap[n]?=some (.cells #[u,z] 362):=by rw[d n r (λe=>by have:=E n e;omega)];exact p
 have A:KP P w w2:=⟨q.os.trans b.os,q.tape.trans b.tape,q.output.trans b.output,by omega,λk i=>d k (l k i).1 λe=>G k e i⟩;have g:KP P w<|w2.setCell ⟨n,1,none⟩ v':=A.set (λi=>(l n i).2 rfl) v';refine⟨o,⟨λk i=>⟨by have:=(l k i).1;rw[size_set];omega,(l k i).2⟩,y,by simpa using H,x,I.aL<|g.block _<|y _ x,u,v',by rw[bS o];rfl,B.aL λk b=>g.block k<|y k b,?_,λk b i=>?_⟩,g⟩
 .rw[x9,C3,VH];exact dM ((aH.refl n w2).set 1 v') (WC _) j
 .obtain h|h:=C k b
  .exact G k h i
  have:=(l k i).1;omega
def IK(c:cQ):Zb:=.agg #[qI c.aC,qI c.v.aC,qI c.v.n,qT c.v.s,qI c.place]
def J9(c:cQ){a:List cQ}{P:Y7}(h:jM w n P F a)(W:a.length+1<=1048576):Zc prog 285 #[qP n,IK c] w λe E=>e=.returned (.tuple #[])/\jM E n P F (a++[c])/\KP P w E:=by
 obtain⟨T,U,h3,z,Y,cv,sv,p,x,t,A⟩:=h;obtain⟨i0,hi,B,C,D⟩:=V5 PT;have X:=lB p;have b1:=bC p;have hf:=bF p 1;have Q:=Z λw1 w2 J hk i V y=>M0 (w1:=w1) (w2:=w2) (v':=J) (c:=c) T U W z Y p x t A hk i V y;obtain⟨sa,sn,sc,rfl⟩:=aF t;have K:=Z t;generalize H:Obj.cells #[qI c.aC,qI c.v.aC,qI c.v.n,qT c.v.s,qI c.place] 335=O;have M:Ze (∀j u,(rK c)[j]?=some u->((w.alloc O).alloc O).drew.cell? ((⟨w.heap.size+1,0,none⟩:Addr).add j)=some u):=by subst H;have:=cW (w.alloc<|.cells #[qI c.aC,qI c.v.aC,qI c.v.n,qT c.v.s,qI c.place] 335) (rK c) 335;simp only[Za.alloc,X7]at this ⊢;exact this
 have N:Ze (∀u∈rK c,u.oneCell'=true):=by intro u I;simp[rK]at I;obtain rfl|rfl|rfl|rfl|rfl:=I<;>rfl
 have L:Ze<|a.length+1<=Zj:=by unfold Ze Zj;omega
 have R:Ze<|(a.length+1)*48<=140737488355328:=by unfold Ze;omega
 have S:Ze<|n+1<=((w.alloc O).alloc O).drew.heap.size:=by unfold Ze;simp[Za.drew];omega
 have HB:Ze<|qB w ((w.alloc O).alloc O).drew:=(((VM w.heap.size w).alloc qZ _).alloc (by simp) _).drew;subst H;unfold IK;go_in;go_wp2
 go_region_law (refine kE rfl (.tmp 8) (.tmp 10) rfl i0 underlying202 hi B C D rfl (by decide) rfl ((K.alloc _).alloc _) ⟨w.heap.size+1,0,none⟩ 1 1 (rK c) rfl rfl M N L R S ?_;intro J E b k d;obtain⟨g',G,rfl⟩:=pP b;obtain⟨g,o,l⟩:=Q.o _ _ _ HB b k d;have c2:=bC g 1;simp at c2;have f2:=bF g 1;have r:=Z o;have q:=Z l;clear o l g b k d)
 all_goals go_wp2_with fail
 all_goals
  refine WL (v:=.tuple #[]) (by simp[Zh,results285,go_sem]) rfl ?_;exact⟨rfl,r,q⟩
def MK(a b:Int)(w:Za):Zc prog 217 #[qI a,qI b] w<|qE (.bool<|dt a b) w:=by
 unfold dt;cases h1:a==b<;>cases h2:a==0<;>cases h3:b==0;all_goals
  go_in;go_wp2
 all_goals exact VI (by simp[Zh,results217,go_sem]) rfl ⟨rfl,rfl⟩
def ou:aV Int->Zb
 |.ok t=>.tuple #[qI t,qI 0]
 |.error e=>.tuple #[qI 0,qI (e:Nat)]
def vf(op:Nat)(a b:Int):List cQ:=match fm op a b with
 |.ok _=>[⟨op+2,aE,0⟩]
 |.error _=>[]
def D2(d:Nat)(a b:Int)(q:2<=d)(A:d<=18){c:List cQ}{P:Y7}(h:jM w n P F c)(H:c.length+1<=1048576):
 Zc prog 318 #[qP n,qI (d:Int),qI a,qI b] w λe u=>e=.returned (ou<|fm d a b)/\jM u n P F (c++vf d a b)/\KP P w u:=by
 have t:=Z h;have x:=Z λu Q (k:jM u n Q F c)=>J9 ⟨d+2,aE,0⟩ k H;obtain⟨K,L,M⟩:=h.2.2.2.2.1 d q A;have G:=h.lt;have J: 9<w.heap.size:=by have:=h.2.2.2.1;omega
 have C:=Z h.1;have r:=Z MK;have hs:d<19:=by omega
 have i:(dt a (cD d)&&dt b (cD d)&&dt a b)=false->ou (fm d a b)=.tuple #[qI 0,qI 3]/\c++vf d a b=c:=by intro j;rw[vf,fm,j];simp[ou]
 have l:(dt a (cD d)&&dt b (cD d)&&dt a b)=true->ou (fm d a b)=.tuple #[qI<|eR d,qI 0]/\c++vf d a b=c++[⟨d+2,aE,0⟩]:=by intro j;rw[vf,fm,j];simp[ou]
 have g:Ze (∀o:Obj,jM (w.alloc o) n P F c/\KP P w (w.alloc o)):=λo=>⟨(t.below<|(VM w.heap.size w).alloc qZ _).back t.2.1,KP.below ((VM w.heap.size w).alloc qZ _) λk hk=>(C k hk).1⟩;generalize ou (fm d a b)=out at*;generalize c++vf d a b=z at*;cases h1:dt a (cD d)with
 |false=>
  obtain⟨rfl,rfl⟩:=i (by rw[h1];rfl);go_in;go_wp2_with (go_at_call 217;apply(r _ _ _).mono;rintro e j⟨rfl,rfl⟩);all_goals exact VI (by simp[Zh,results318,go_sem]) rfl ⟨rfl,g _⟩
 |true=>
  cases q:dt b (cD d)with
  |false=>
   obtain⟨rfl,rfl⟩:=i (by rw[h1,q];rfl);go_in;go_wp2_with (go_at_call 217;apply(r _ _ _).mono;rintro e j⟨rfl,rfl⟩);all_goals exact VI (by simp[Zh,results318,go_sem]) rfl ⟨rfl,g _⟩
  |true=>
   cases h3:dt a b with
   |false=>
    obtain⟨rfl,rfl⟩:=i (by rw[h1,q,h3];rfl);go_in;go_wp2_with (go_at_call 217;apply(r _ _ _).mono;rintro e j⟨rfl,rfl⟩);all_goals exact VI (by simp[Zh,results318,go_sem]) rfl ⟨rfl,g _⟩
   |true=>
    obtain⟨rfl,rfl⟩:=l (by rw[h1,q,h3];rfl);have E:(((d+2:Nat)):Int)=(d:Int)+2:=by omega
    unfold IK at x;simp only[E]at x;go_in;go_wp2_with (go_at_call 217;apply(r _ _ _).mono;rintro e D⟨rfl,rfl⟩);refine qR (x _ _<|t.below<|(VM w.heap.size w).alloc qZ _) ?_;rintro D⟨B,p⟩;have y:=Z<|(KP.below ((VM w.heap.size w).alloc qZ _) λk hk=>(C k hk).1).trans<|p.mono λk hk=>.inl hk;have c1:=λj=>bC (p.q (.inr ⟨qZ,by simp⟩)<|aM w _) j;have I:w.heap.size<D.heap.size:=by have:=p.size;simp at this;omega
    go_wp2;all_goals exact VI (by simp[Zh,results318,go_sem]) rfl ⟨rfl,Z<|B.back<|t.2.1,y⟩
def A2{e:Nat}(h:fm n a M=.error e):e=3:=by unfold fm at h;split at h<;>cases h;rfl
def fB:∀{t:aA}{e:Nat},bD F t=.error e->e=2\/e=3
 |.nil,e,h=>by simp[bD]at h
 |.node _ _ p l r,e,h=>by
  unfold bD at h;split at h
  .cases h
  split at h
  .split at h
   .cases h
   cases h;exact .inl rfl
  cases hl:bD F l with
  |error e'=>rw[hl]at h;cases h;exact fB hl
  |ok a=>
   rw[hl]at h;simp only at h;split at h
   .exact .inr<|A2 h
   cases hr:bD F r with
   |error e'=>rw[hr]at h;cases h;exact fB hr
   |ok b=>rw[hr]at h;exact .inr<|A2 h
def xW(w:Za)(hi:Nat):aA->Zb->Prop
 |.nil,v=>v=.pointer none
 |.node _ _ a l r,v=>∃(n:Nat) (vl vr:Zb),v=qP n/\n<hi /\
  w.heap[n]?=some (.cells #[qI a.op,qI a.aC,qI a.n,qT a.s,qT a.src,qT a.name,vl,vr] 269)/\xW w hi l vl/\xW w hi r vr
def xW.aL{w':Za}(b:∀k,k<i->w'.heap[k]?=w.heap[k]?):∀{t:aA}{v:Zb},xW w i t v->xW w' i t v
 |.nil,_,h=>h
 |.node _ _ a l r,v,⟨n,vl,vr,hv,hn,hb,hl,hr⟩=>⟨n,vl,vr,hv,hn,(b n hn).trans hb,hl.aL b,hr.aL b⟩
def xW.more(b:k<=i):∀{t:aA}{v:Zb},xW w k t v->xW w i t v
 |.nil,_,h=>h
 |.node _ _ a l r,v,⟨n,vl,vr,hv,hn,hb,hl,hr⟩=>⟨n,vl,vr,hv,by omega,hb,hl.more b,hr.more b⟩
def cE.c(b:w.heap.size<=i):∀{t:aA}{v:Zb},cE w k t v->xW w i t v
 |.nil,_,h=>h
 |.node _ _ a l r,v,⟨n,vl,vr,hv,hn,hb,hl,hr⟩=>⟨n,vl,vr,hv,by have:=lB hb;omega,hb,hl.c b,hr.c b⟩
def KP.c{P:Y7}{v:Zb}(h:KP P w W)(a:∀k,k<n->P k)(b:xW w n R v):xW W n R v:=b.aL λk hk=>h.block k<|a k hk
def i6(w:Za)(cb:Nat)(P:Y7)(ab:YY)(code:List cQ)(t:aA)(e:Ending)(w':Za):Prop:=
 e=.returned (ou<|bD ab t)/\KP P w w'/\∃code',jM w' cb P ab code'/\code'.length<=code.length+2*eH t/\∀ty,bD ab t=.ok ty->code'=code++cy ab code.length t
def Ca(f:FuncId)(t:aA):Prop:=∀ab code cb P w v,ab.length<=1000->jM w cb P ab code->xW w cb t v->code.length+2*eH t<=1048576->Zc prog f #[qP cb,v] w (i6 w cb P ab code t)
def A1(c:Nat)(a b:Int):(vf c a b).length<=1:=by unfold vf;split<;>simp
def TM{a1 a2:Nat}{p:k_}{r:aA}(M:2<=p.op)(H:p.op<=5)(L:Ca 251 R):Ca 288<|.node a1 a2 p R r:=by
 intro ab d G P w v A q U Q;obtain⟨n,W,vr,rfl,S,(HB:Ze _),N,hR⟩:=U;have Y:=Z q;have O:=q.lt;have T:n<w.heap.size:=by omega
 have c0:=bC HB;rw[eH]at Q;have c:=Z<|L ab d G P w W A q N (by omega);have F:Ze<|eH (.node a1 a2 p R r)=eH R+eH r+1:=by rw[Ze,eH]
 have o:Ze<|bD ab (.node a1 a2 p R r)=match bD ab R with|.error e=>.error e|.ok a=>fm p.op a a:=by
  unfold Ze;rw[bD,VF<|by omega,VF<|by omega];cases bD ab R with
  |error e=>rfl
  |ok a=>simp only;rw[VG H]
 have K:Ze<|cy ab d.length (.node a1 a2 p R r)=cy ab d.length R++[⟨p.op+2,aE,0⟩]:=by unfold Ze;rw[cy,VF<|by omega,VF<|by omega,VG H]
 cases htl:bD ab R with
 |error t=>
  have u:((t:Int) != 0)=true:=by have:=fB htl;simp;omega
  rw[htl]at o;unfold i6 at c ⊢;rw[htl]at c;rw[o];simp only[ou]at c ⊢;go_in;go_wp2_with fail;apply qR c;rintro y⟨k,b,j,l,_⟩;have i:=Z k;have g:=Z j;go_wp2;exact VI (by simp[Zh,results288,go_sem]) rfl ⟨rfl,i,b,g,by rw[F];omega,λx h=>by cases h⟩
 |ok a=>
  rw[htl]at o;unfold i6 at c ⊢;rw[htl]at c;rw[o];simp only[ou]at c;have E:=Z λw' b (k:jM w' G P ab b) (C:b.length+1<=1048576)=>D2 p.op a a M (by omega) k C;obtain⟨x,y,D⟩:∃x y:Int,ou (fm p.op a a)=.tuple #[qI x,qI y]:=by
   cases fm p.op a a with
   |ok t=>exact⟨_,_,rfl⟩
   |error e=>exact⟨_,_,rfl⟩
  simp only;rw[D]at E ⊢;go_in;go_wp2_with fail;apply qR c;rintro X⟨l,b,j,I,g⟩;have z:=Z l;have J:=Z j;have i:=l.q ((Z q.2.1) n S) HB;have d0:=bC i;have V:=lB i;go_wp2_with fail;apply qR<|Z<|E X b j (by omega);rintro w2⟨(u:Ze _),B⟩;go_wp2_with fail;refine VI (by simp[Zh,results288,go_sem]) rfl ⟨rfl,Z<|z.trans B,_,u,?_,λty h=>?_⟩
  .have:=A1 p.op a a;rw[F,VH];omega
  rw[K,Z<|g a rfl];unfold vf;rw[h];simp
def tF(x:aV Int):∃a b:Int,ou x=.tuple #[qI a,qI b]:=by
 cases x with
 |ok t=>exact⟨_,_,rfl⟩
 |error e=>exact⟨_,_,rfl⟩
def TN{a1 a2:Nat}{p:k_}(h6:6<=p.op)(L:p.op<=16)(I:Ca 251 R)(J:Ca 251 S):Ca 289<|.node a1 a2 p R S:=by
 intro ab g K P w v B M ht hl;obtain⟨n,vl,vr,rfl,V,(HB:Ze _),hL,(z:Ze _)⟩:=ht;have ac:=M.lt;have ad:n<w.heap.size:=by omega
 have c0:=bC HB;rw[eH]at hl;have d:=Z<|I ab g K P w vl B M hL (by omega);have i:=Z λc Y N W t=>J ab c K P Y vr B N W t;have u:=Z M.2.1;have H:Ze<|eH (.node a1 a2 p R S)=eH R+eH S+1:=by rw[Ze,eH]
 have D:Ze<|bD ab (.node a1 a2 p R S)=match bD ab R with|.error e=>.error e|.ok a=>match bD ab S with|.error e=>.error e|.ok b=>fm p.op a b:=by
  unfold Ze;rw[bD,VF<|by omega,VF<|by omega];cases bD ab R with
  |error e=>rfl
  |ok a=>simp only;rw[VF<|by omega];cases bD ab S<;>rfl
 have HG:Ze<|cy ab g.length (.node a1 a2 p R S)=cy ab g.length R++(cy ab (g.length+(cy ab g.length R).length) S++[⟨p.op+2,aE,0⟩]):=by unfold Ze;rw[cy,VF<|by omega,VF<|by omega,VF<|by omega,VG L]
 cases htl:bD ab R with
 |error r=>
  have x:((r:Int) != 0)=true:=by have:=fB htl;simp;omega
  rw[htl]at D;unfold i6 at d ⊢;rw[htl]at d;rw[D];simp only[ou]at d ⊢;go_in;go_wp2_with fail;apply qR d;rintro A⟨o,c,l,q,_⟩;have k:=Z o;have j:=Z l;go_wp2;exact VI (by simp[Zh,results289,go_sem]) rfl ⟨rfl,k,c,j,by rw[H];omega,λy h=>by cases h⟩
 |ok a=>
  rw[htl]at D;unfold i6 at d i ⊢;rw[htl]at d;rw[D];simp only[ou]at d;cases htr:bD ab S with
  |error Q=>
   have T:((Q:Int) != 0)=true:=by have:=fB htr;simp;omega
   rw[htr]at i;simp only[ou]at i ⊢;go_in;go_wp2_with fail;apply qR d;rintro X⟨k,c,y,G,C⟩;have q:=Z k;have l:=k.q (u n V) HB;have O:=bC l 7;simp at O;have U:=lB l;have x:=Z<|i c X y (k.c u z) (by omega);go_wp2_with fail;apply qR x;rintro w2⟨E,j,A,F,_⟩;have r:=Z<|q.trans E;have o:=Z A;go_wp2;exact VI (by simp[Zh,results289,go_sem]) rfl ⟨rfl,r,j,o,by rw[H];omega,λty h=>by cases h⟩
  |ok b=>
   rw[htr]at i;simp only[ou]at i;have HF:=Z λY c (k:jM Y K P ab c) (t:c.length+1<=1048576)=>D2 p.op a b (by omega) (by omega) k t;obtain⟨x,y,X⟩:=tF<|fm p.op a b;simp only;rw[X]at HF ⊢;go_in;go_wp2_with fail;apply qR d;rintro w1⟨r,c,O,aa,q⟩;have G:=Z r;have o:=r.q (u n V) HB;have d7:=bC o;have ae:=lB o;have E:=Z o;go_wp2_with fail;apply qR<|Z<|i c w1 O (r.c u z) (by omega);rintro w2⟨C,l,Q,U,j⟩;have A:=C.q (u n V) E;have e0:=bC A;have af:=lB A;go_wp2_with fail;apply qR<|Z<|HF w2 l Q (by omega);rintro w3⟨(F:Ze _),T⟩;go_wp2_with fail;refine VI (by simp[Zh,results289,go_sem]) rfl ⟨rfl,Z<|(Z<|G.trans C).trans T,_,F,?_,λty h=>?_⟩
   .have:=A1 p.op a b;rw[H,VH];omega
   rw[HG,Z<|j b rfl,Z<|q a rfl];unfold vf;rw[h];simp
def Hl{α:Type}{l:List α}{m:Nat}(u:α)(h:i<m):(l.set i u).take m=(l.take m).set i u:=by
 apply WX;intro j;simp only[V6,Wq,Wl];by_cases b:j<m
 .by_cases a:i=j
  .subst a;by_cases c:i<l.length
   .rw[VG b,VG rfl,VG c,VG rfl,VG<|by omega]
   rw[VG b,VG rfl,VF c,VG rfl,VF<|by omega]
  rw[VG b,VF a,VF a,VG b]
 rw[VF b,VF<|by omega,VF b]
def Aa{e:Zf}{v:Zb}{g i:Nat}{c:Y0}(h:w.ownsRow k e j v n c)(b:v.ownBlock=some g)(t:i<n*j)(u:Zb):(w.setCell ⟨g,i,none⟩ u).ownsRow k e j v n<|c.set i u:=by
 obtain⟨l,o⟩:=h;refine⟨by rw[Wu];exact l,?_⟩;obtain⟨rfl,_⟩|⟨d,cap,a,rfl,p,r,q,x,hs,y⟩:=o
 .cases b
 simp[Zb.ownBlock]at b;subst b;refine .inr ⟨d,cap,a.setIfInBounds i u,rfl,p,bS r i u,q,x,by simpa using hs,?_⟩;rw[Array.toList_setIfInBounds,Hl _ t,y]
def K6(A:List cQ)(c:cQ)(B:List cQ)(q:Nat):(lR<|A++c::B).set (A.length*5+4) (qI q)=lR (A++⟨c.aC,c.v,q⟩::B):=by
 have e:∀c:cQ,lR (A++c::B)=lR A++(rK c++lR B):=λc=>by rw[x9];show lR A++lR ([c]++B)=_;rw[x9,C3]
 rw[e,e,Ws _ _ (by rw[C2];omega),C2];rw[show A.length*5+4-A.length*5=4 by omega];rfl
def jM.set{P:Y7}{A B:List cQ}{c:cQ}(h:jM w n P F<|A++c::B)(q:Nat):∃g cap cv,w.heap[n]?=some (.cells #[cv,qL g (A++c::B).length cap] 362)/\g<w.heap.size/\w.frozen? ⟨g,A.length*5+4,none⟩=false/\(∃u,w.cell? ⟨g,A.length*5+4,none⟩=some u) /\
 jM (w.setCell ⟨g,A.length*5+4,none⟩<|qI q) n P F (A++⟨c.aC,c.v,q⟩::B)/\KP P w (w.setCell ⟨g,A.length*5+4,none⟩<|qI q):=by
 obtain⟨r,l,z,i,D,cv,v,t,o,x,y⟩:=h;obtain⟨g,cap,b,rfl,E,p,C,G,hs,H⟩:∃g cap b,v=qL g (A++c::B).length cap/\n+1<=g/\w.heap[g]?=some (.cells b 335 (0,0))/\(A++c::B).length<=cap/\cap<=Zj/\b.size=cap*5/\b.toList.take ((A++c::B).length*5)=lR (A++c::B):=by
  obtain⟨_,j⟩|j:=x.2
  .simp at j
  exact j
 have e:A.length*5+4<(A++c::B).length*5:=by simp;omega
 have a:KP P w<|w.setCell ⟨g,A.length*5+4,none⟩<|qI q:=(KP.refl P w).set (λd=>y g rfl d) _;refine⟨g,cap,cv,t,lB p,bF p _,?_,?_,a⟩
 .refine⟨_,(bC p _).trans<|Array.getElem?_eq_getElem ?_⟩;have:(A++c::B).length*5<=cap*5:=Wy _ C;omega
 .refine⟨λk d=>⟨by rw[size_set];exact(r k d).1,(r k d).2⟩,l,by simpa using z,i,D.aL<|a.block _<|l _ i,cv,qL g (A++c::B).length cap,?_,o.aL λk hk=>a.block k<|l k hk,?_,?_⟩
  .exact bY t (by omega) _ _
  .have:=Aa x (g:=g) rfl e<|qI q;rw[K6]at this;simpa using this
  intro k hk d;exact y k hk d
def KP.drew{P:Y7}(h:KP P w W):KP P w W.drew:=⟨h.os,h.tape,h.output,h.size,h.block⟩
def jM.drew{P:Y7}{a:List cQ}(h:jM w n P F a):jM w.drew n P F a:=h
def jM.box{P:Y7}{b:List cQ}(h:jM w n P F b):∃cv a c,w.heap[n]?=some (.cells #[cv,.slice a b.length c] 362):=by
 obtain⟨_,_,_,_,_,cv,v,d,_,j,_⟩:=h;obtain⟨rfl,i⟩|⟨g,cap,e,rfl,_⟩:=j.2
 .exact⟨cv,none,0,by rw[i];exact d⟩
 exact⟨cv,_,_,d⟩
def J4{a1 a2:Nat}{p:k_}(av:17<=p.op)(ag:p.op<=18)(ae:Ca 251 R)(af:Ca 251 S):
 ∀ab d t P w v,ab.length<=1000->jM w t P ab d->xW w t (.node a1 a2 p R S) v->d.length+2*eH (.node a1 a2 p R S)<=1048576->Zc prog 287 #[qP t,v,qI ((p.op-15:Nat):Int)] w (i6 w t P ab d<|.node a1 a2 p R S):=by
 intro ab d t P w v u hc ht hl;obtain⟨n,vl,vr,rfl,Q,(HB:Ze _),hL,(J:Ze _)⟩:=ht;have ax:=hc.lt;have aF:n<w.heap.size:=by omega
 have c0:=bC HB;rw[eH]at hl;obtain⟨A,O⟩:∃A:Nat,p.op-15=A:=⟨_,rfl⟩;rw[O];have i:=Z<|ae ab d t P w vl u hc hL (by omega);have l:=Z λc U ai ao o=>af ab c t P U vr u ai ao o;have G:=Z λU c (k:jM U t P ab c) (o:c.length+1<=1048576)=>J9 ⟨A,aE,0⟩ k o;have B:=Z hc.2.1;have HS:Ze<|eH (.node a1 a2 p R S)=eH R+eH S+1:=by rw[Ze,eH]
 have V:Ze<|bD ab (.node a1 a2 p R S)=match bD ab R with|.error e=>.error e|.ok a=>match bD ab S with|.error e=>.error e|.ok b=>fm p.op a b:=by
  unfold Ze;rw[bD,VF<|by omega,VF<|by omega];cases bD ab R with
  |error e=>rfl
  |ok a=>simp only;rw[VF<|by omega];cases bD ab S<;>rfl
 have HG:Ze<|cy ab d.length (.node a1 a2 p R S)=cy ab d.length R++(⟨A,aE,d.length+(cy ab d.length R).length+1+(cy ab (d.length+(cy ab d.length R).length+1) S).length+1⟩::(cy ab (d.length+(cy ab d.length R).length+1) S++[⟨p.op+2,aE,0⟩])):=by unfold Ze;rw[cy,VF<|by omega,VF<|by omega,VF<|by omega,VF<|by omega,O]
 have K:2<=p.op:=by omega
 cases htl:bD ab R with
 |error y=>
  have z:((y:Int) != 0)=true:=by have:=fB htl;simp;omega
  rw[htl]at V;unfold i6 at i ⊢;rw[htl]at i;rw[V];simp only[ou]at i ⊢;go_in;go_wp2_with fail;apply qR i;rintro D⟨r,c,q,x,_⟩;have j:=Z r;have g:=Z q;go_wp2;exact VI (by simp[Zh,results287,go_sem]) rfl ⟨rfl,j,c,g,by rw[HS];omega,λC h=>by cases h⟩
 |ok a=>
  rw[htl]at V;unfold i6 at i l ⊢;rw[htl]at i;rw[V];simp only[ou]at i;cases htr:bD ab S with
  |error er=>
   have ay:((er:Int) != 0)=true:=by have:=fB htr;simp;omega
   rw[htr]at l;simp only[ou]at l ⊢;unfold IK at G;simp only[aE]at G;go_in;go_wp2_with fail;apply qR i;rintro w1⟨z,c,y,aq,X⟩;have I:=Z z;have r:=z.q (B n Q) HB;have aL:=lB r;have E:=Z r;obtain⟨TT,sa,sc,D⟩:=y.box;have x1:=bC D 1;simp at x1;have aI:=lB D;have H:=Z<|G w1 c y (by omega);go_wp2_with fail;apply qR H;rintro w2⟨N,C⟩;have q:=Z<|I.trans C;have x:=C.q (B n Q) E;have d7:=bC x 7;simp at d7;have aN:=lB x;have M:=Z<|l _ w2 N (q.c B J) (by simp;omega);go_wp2_with fail;apply qR M;rintro w3⟨Y,g,W,j,_⟩;have L:=Z<|q.trans Y;have F:=Z W;go_wp2;exact VI (by simp[Zh,results287,go_sem]) rfl ⟨rfl,L,g,F,by rw[HS];simp at j;omega,λty h=>by cases h⟩
  |ok b=>
   rw[htr]at l;simp only[ou]at l;have HF:=Z λU c (k:jM U t P ab c) (o:c.length+1<=1048576)=>D2 p.op a b K ag k o;obtain⟨x,y,ap⟩:=tF<|fm p.op a b;simp only;rw[ap]at HF ⊢;unfold IK at G;simp only[aE]at G;go_in;go_wp2_with fail;apply qR i;rintro w1⟨q,c,j,ar,g⟩;have ac:=Z q;have H:=Z<|g a rfl;have h:=q.q (B n Q) HB;have aM:=lB h;have W:=Z h;obtain⟨TT,sa,sc,r⟩:=j.box;have x1:=bC r;have aJ:=lB r;have aa:=Z<|G w1 c j (by omega);clear q j g h r;go_wp2_with fail;apply qR aa;rintro w2⟨aj,M⟩;have I:=Z<|ac.trans M;have D:=M.q (B n Q) W;have d7:=bC D;have aO:=lB D;have X:=Z D;go_wp2_with fail;refine(Z<|l _ w2 aj (I.c B J) (by simp;omega)).mono ?_;rintro e w3⟨rfl,N,j,ak,r,z⟩;have L:=N.q (B n Q) X;have d0:=bC L;have aP:=lB L;have aD:j.length+1<=d.length+2*(eH R+eH S+1):=by simp at r;omega
   go_wp2_with fail;refine(Z<|HF w3 j ak (by simp at r;omega)).mono ?_;rintro e w4⟨rfl,F,am⟩;have e4:j++vf p.op a b=c++(⟨A,aE,0⟩:cQ)::(cy ab (c++[(⟨A,aE,0⟩:cQ)]).length S++vf p.op a b):=by rw[Z<|z b rfl];simp[aE]
   rw[e4]at F;obtain⟨T,(C:Ze _)⟩:∃T,(cy ab (c++[(⟨A,aE,0⟩:cQ)]).length S++vf p.op a b)=T:=⟨_,rfl⟩;rw[C]at F;have aw:c.length+(T.length+1)=j.length+(vf p.op a b).length:=by have:=Wd List.length e4;rw[C]at this;simpa using this.symm
   obtain⟨q,(HQ:Ze _)⟩:∃q,(c++(⟨A,aE,0⟩:cQ)::T).length=q:=⟨_,rfl⟩;obtain⟨g,cap,au,E,aC,aB,⟨u4,aH⟩,al,an⟩:=F.set q;rw[HQ]at E;have y1:=bC E;have aK:=lB E;have Y:=Z al;have ad:=Z<|(Z<|(Z<|I.trans N).trans am).trans an;have aG:c.length<q:=by rw[<-HQ];simp
   go_wp2;go_region;go_wp2;have az:=A1 p.op a b;refine VI (by simp[Zh,results287,go_sem]) rfl ⟨rfl,ad.drew,_,Y.drew,?_,λty h=>?_⟩
   .rw[HS];simp;omega
   have ah:T=cy ab (c++[(⟨A,aE,0⟩:cQ)]).length S++[⟨p.op+2,aE,0⟩]:=by rw[<-C];unfold vf;rw[h]
   have u:c.length=d.length+(cy ab d.length R).length:=by rw[H];simp
   rw[HG,<-HQ,ah];simp only[VH,Wk,WR,u,XC];rw[H,Wh];have hX:∀x y:Nat,x+(y+1+1)=x+1+y+1:=λx y=>by omega
   rw[hX]
