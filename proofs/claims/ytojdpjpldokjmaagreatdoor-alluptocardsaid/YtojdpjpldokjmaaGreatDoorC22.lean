import Derived.Test.YtojdpjpldokjmaaGreatDoorC19
import Derived.Test.YtojdpjpldokjmaaGreatDoorC21
import Derived.Test.YtojdpjpldokjmaaGreatDoorC20
import Derived.Test.YtojdpjpldokjmaaGreatDoorC17
set_option maxHeartbeats 0
set_option maxRecDepth 100000
set_option linter.all false
namespace Go.Proofs.YtojdpjpldokjmaaGreatDoor
open Go.Deep Go.RowKit Tryz
open Go renaming World->Za,Value->Zb,Calls->Zc,Ending->Zg,results->Zh,callFunc->Zi,maxLen->Zj
open RowKit renaming Below->Zd,Hid->Ze,intOf->Zk
variable{W w x:World}{i j k n:Nat}{G H:Y7}{K:aI}{g:Y5}{A B C u z:Value}{r t:List (ay×Value)}{R:aA}{F:YY}{I J:YW}{e o p:YZ}{N O Q:List YW}{M:Int}{L b:Bool}
def fg.d:∀{aN:Y3}{b:Y0},fg w n aN b->CL (aN.map λi=>(i.name,i.type)) b
 |[],b,h,i,c,hc=>by simp at hc
 |it::aN,b,⟨a,rest,hcs,ht,hr⟩,i,c,hc=>by
  subst hcs;cases i with
  |zero=>simp at hc;subst hc;simp[j4]
  |succ i=>
   simp only[We,Xv]at hc;obtain⟨e,g⟩:=fg.d hr i c hc;have d:(j4 it<|.pointer a).length=5:=rfl;constructor
   .rw[VW (by rw[d];omega),d,show(i+1)*5-5=i*5 by omega];exact e
   rw[VW (by rw[d];omega),d,show(i+1)*5+2-5=i*5+2 by omega];exact g
def fg.c:∀{aN:Y3}{d:Y0},fg w n aN d->∃c:List<|aA×Zb,c.map (·.1)=aN.map (·.aW)/\(∀(i:Nat)(p:aA×Zb),c[i]?=some p->d[i*5+3]?=some p.2)/\∀p∈c,bz w n p.1 p.2
 |[],d,h=>⟨[],rfl,λi p a=>by simp at a,λp a=>by cases a⟩
 |it::aN,d,⟨a,rest,hcs,ht,hr⟩=>by
  subst hcs;obtain⟨c,g,h,j⟩:=fg.c hr;refine⟨(it.aW,.pointer a)::c,by simp[g],λi p b=>?_,λp b=>?_⟩
  .cases i with
   |zero=>simp at b;subst b;simp[j4]
   |succ i=>
    simp only[Xv]at b;have e:(j4 it<|.pointer a).length=5:=rfl;rw[VW (by rw[e];omega),e,show(i+1)*5+3-5=i*5+3 by omega];exact h i p b
  obtain rfl|b:=V8.1 b
  .exact ht
  exact j p b
def e7.q{aN:Y3}{v:Zb}(h:e7 w n k aN v):∃b:List<|aA×Zb,b.map (·.1)=aN.map (·.aW)/\Hz w w.heap.size b v/\∀p∈b,bz w n p.1 p.2:=by
 obtain⟨A,j,hi⟩:=h;obtain⟨b,l,o,r⟩:=hi.c;have d:b.length=aN.length:=by have:=Wd List.length l;simpa using this
 refine⟨b,l,?_,r⟩;obtain⟨a,c,rfl,_⟩:=cz j;refine⟨a,c,by rw[d],λy=>?_⟩;have q:0<b.length:=by cases b with
  |nil=>exact absurd rfl y
  |cons _ _=>simp
 obtain⟨g,_,u,_,x,_⟩:=dA j<|o 0 _<|VE q;cases u;refine⟨g,rfl,x,λi p z=>?_⟩;obtain⟨B,_,e,_,_,t⟩:=dA j<|o i p z;cases e;exact t
def ei.boxed{j:Za}(l:∀k,G k->k<w.heap.size)(b:qB w W)(c:ei (w.heap.size+1) W G n K x H g)(a:nu w.heap.size x j):ei w.heap.size w G n K j H g:=by
 have i:∀k,H k->k≠w.heap.size:=λk hk e=>by
  obtain h|h:=c.new k hk
  .have:=l k h;omega
  omega
 refine⟨c.a.aL (W_ a.size.symm) λk hk=>a.block k<|i k hk,c.sub,λk hk=>(c.new k hk).imp id λh=>by omega,?_⟩;have d:=c.aL;refine⟨a.os.trans<|d.os.trans b.os,a.tape.trans<|d.tape.trans b.tape,a.output.trans<|d.output.trans b.output,?_,λk hk=>?_⟩
 .have:=b.size;have:=d.size;have:=a.size;omega
 rw[a.block k<|by omega,d.block k ⟨by have:=b.size;omega,hk.2⟩,b.block k hk.1]
abbrev rM:Obj:=.cells #[qN,qI 0] 36
def Un{T:TypeId}(a:w.heap[n]?=some (.cells #[u,z] T))(x y:Zb):((w.setCell ⟨n,0,none⟩ x).setCell ⟨n,1,none⟩ y).heap[n]?=some (.cells #[x,y] T):=by have:=bS (bS a 0 x) 1 y;simpa using this
def Jl{a:Zg->Za->Prop}{b:Y_}(j:w.heap[n]?=some (.cells #[u,z] 36))(g:b[4]?=some (qP n))(h:b[5]?=some C)
 (i:a (.returned<|.tuple #[.agg #[A,B],C])<|(w.setCell ⟨n,0,none⟩ A).setCell ⟨n,1,none⟩ B):
 bodyPost prog f32 a Exit.ret {tmps:=b,defers:=[]} ((w.setCell ⟨n,0,none⟩ A).setCell ⟨n,1,none⟩ B):=by
 have c:=Un j A B;generalize (w.setCell ⟨n,0,none⟩ A).setCell ⟨n,1,none⟩ B=W at*;have d:=bC c 0;have e:=bC c 1;simp at d e;refine VI (v:=.tuple #[.agg #[A,B],C]) ?_ rfl i;simp[Zh,results32,go_sem,Act.eval,g,h,d,e]
def zX(w:Za)(M:Y7)(b:Nat)(o:aI×iW)(e:Zg)(w':Za):Prop:=
 e=.returned (.tuple #[.agg #[qN,qI o.2.count],qI (o.2.err:Nat)])/\∃M' lay',ei w.heap.size w M b o.1 w' M' lay'
def J_(t:YX)(ht:t.length<=1048576)(N:∀s,bp t=some s->s.aC=99\/s.aC=105)(h:jE w G n g K):
 Zc prog 32 #[qP n,qT t] w (zX w G n<|fx K t):=by
 have J:qB w<|w.alloc rM:=qA;have E:=Z<|pQ ⟨t.toArray⟩ (w.alloc rM) ht;have c:=Z J;have I:=Z h;have u:=Z h.lt;have aa:=h.lt _ h.own;have i:Ze (∀q x y,nu w.heap.size q<|(q.setCell ⟨w.heap.size,0,none⟩ x).setCell ⟨w.heap.size,1,none⟩ y):=λq x y=>((nu.refl _ _).set 0 x).set 1 y;cases hpp:bp t with
 |none=>
  have p:Ze<|fx K t=(K,di 1):=by rw[Ze,fx,hpp]
  rw[p];have k:=Z hpp;go_in;go_wp2_with refine E.mono ?_;rintro e q⟨j,a,rfl,o⟩;have l:a=none:=by
   have A:bp (⟨t.toArray⟩:Y9).data.toList=none:=by simpa using k.o
   rw[A]at o;exact o
  subst l;have b:=bB j (by simp)<|aM w rM;have z:=lB b;have D:=bF b 0;have F:=bF b 1;have B:=bC b 0;have C:=bC b 1;simp at B C;have d:=Z<|c.trans<|j.mono c.size;have r:=Z b;go_wp2_with fail;refine Jl r rfl rfl ⟨rfl,G,g,?_⟩;exact ei.boxed u d (ei.below (I.below d) qW)<|i _ _ _
 |some s=>
  have V:Ze<|fx K t=d_ K s:=by rw[Ze,fx,hpp]
  have A:=Z hpp;have z:=Z<|ix hpp;rw[V];obtain b|b:=N s hpp
  .have M:d_ K s=dk K s:=by rw[d_,VG b]
   rw[M];go_in;go_wp2_with refine E.mono ?_;rintro e q⟨l,a,rfl,P⟩;have hq:bp (⟨t.toArray⟩:Y9).data.toList=some s:=by simpa using A.o
   rw[hq]at P;obtain⟨rb,O,p,vi,vs,vk,vw,rfl,af,o,hi,ah,aj,ab⟩:=P;have Q:=bB l (by simp)<|aM w rM;have r:=Z<|c.trans<|l.mono c.size;obtain⟨Y,j,L⟩:=hi;have S:w.heap.size+1<=rb:=by simpa using O
   have U:=Z<|PD (w.heap.size+1) z b (rb+1) (I.below r) (by have:=l.size;simpa using this) o (by simpa[fJ]using j) L.d (λk N=>by have:=(j.lt k N).1;omega);have ac:=lB o;have T:=bC o 0;simp[bQ]at T;rw[b]at T;have W:=Z Q;have H:=lB Q;go_wp2_with fail;apply qR U;rintro w2⟨X,C,B⟩;have d:w2.heap[w.heap.size]?=some rM:=(B.aL.block _ ⟨H,λhm=>by have:=u.o _ hm;omega⟩).trans W;have R:=lB d;have f0:=bF d 0;have f1:=bF d 1;have r0:=bC d 0;have r1:=bC d 1;simp at r0 r1;have F:=Z B;have D:=Z d;go_wp2_with fail;refine Jl D rfl rfl ⟨?_,X,C,ei.boxed u r F<|i _ _ _⟩;rw[Z (yS K s).2];rfl
  have L:d_ K s=dI K s:=by rw[d_,VF<|by omega,VG b]
  rw[L];go_in;go_wp2_with refine E.mono ?_;rintro e q⟨j,a,rfl,D⟩;have hq:bp (⟨t.toArray⟩:Y9).data.toList=some s:=by simpa using A.o
  rw[hq]at D;obtain⟨rb,ae,p,vi,vs,vk,vw,rfl,ag,k,hi,ai,ak,W⟩:=D;have O:=bB j (by simp)<|aM w rM;have l:=Z<|c.trans<|j.mono c.size;obtain⟨ps,r,o,M⟩:=hi.q
  have R:=Z (PY (w.heap.size+1) s z b r (λp Y=>by
   have:p.1∈s.c.map (·.aW):=by rw[<-r];exact V0 Y
   obtain⟨it,D,U⟩:=VV.1 this;rw[<-U]
   exact(Z<|nH hpp).c it D) (I.below l) (by have:=j.size;simpa using this) k o rb M)
  have ad:=lB k;have Q:=bC k 0;simp[bQ]at Q;rw[b]at Q;have S:=Z O;go_wp2_with fail;apply qR R;rintro w2⟨T,C,B⟩;have d:w2.heap[w.heap.size]?=some rM:=(B.aL.block _ ⟨lB O,λX=>by have:=u.o _ X;omega⟩).trans S;have P:=lB d;have f0:=bF d 0;have f1:=bF d 1;have r0:=bC d;have H:=Z B;have F:=Z d;go_wp2;exact Jl F rfl rfl ⟨rfl,T,C,ei.boxed u l H<|i _ _ _⟩
def RX(h:YX)(t:bV){u0 u2:Zb}(c:w.heap[n]?=some (.cells #[u0,u,u2] 159)){y:Y0}(a:w.ownsRow k 157 5 u t.a.length y)(b:CL t.a y)(J:t.a.length<=1000):
 Zc prog 135 #[qP n,qT h] w (qE (qI<|nk<|dY t h) w):=by
 obtain⟨G,H,rfl,_⟩:=cz a;have F:=bC c 1;simp at F;have E:=lB c;have z:=Z a;have A:=Z b;generalize d:nk (dY t h)=o;have x:=Z d;clear c a b d;go_in;go_wp2
 go_loop [5] (λa=>∃i:Nat,i<=t.a.length/\a=qI i/\Ze (∀(j:Nat) (c:YX×Int),j<i->t.a[j]?=some c->c.1≠h)) (λa=>t.a.length-(Zk a).toNat)
 exact⟨0,qO,rfl,λj t l=>by omega⟩
 case round=>
  obtain⟨i,hi,rfl,p⟩:=hrel;by_cases r:i<t.a.length
  .have b:t.a[i]?=some t.a[i]:=VE r;generalize t.a[i]=c at*;obtain⟨g,_,B,_,C,I⟩:=dA z (A i c b).1;cases B;have D:(i:Int)<(t.a.length:Int):=by omega
   by_cases d:c.1=h
   .obtain⟨K,L⟩:=kj d;have q:Ze<|o=(i:Nat):=by rw[Ze,<-x,so p b d];rfl
    clear d b;go_wp2;go_ret;exact⟨by rw[q];rfl,rfl⟩
   obtain⟨K,L⟩:=ku d;have q:Ze (∀(j:Nat) (c:YX×Int),j<i+1->t.a[j]?=some c->c.1≠h):=λj s l hs=>by
    by_cases e:j=i
    .subst e;rw[b]at hs;cases hs;exact d
    exact p j s (by omega) hs
   clear d b;go_wp2;go_round;exact⟨i+1,by omega,by go_num,q⟩;simp[Zk];omega
  have b:Ze<|o=-1:=by unfold Ze;rw[<-x,sk λj c l=>p j c (by have:=bw l;omega) l];rfl
  go_wp2;go_ret;exact⟨by rw[b];rfl,rfl⟩
def U5(p:ay×Zb):Y0:=j4 p.1 p.2
def rH(w:Za)(rb:Nat)(ps:List<|ay×Zb)(v:Zb):Prop:=br w w.heap.size 5 U5 ps v/\∀p∈ps,bz w rb p.1.aW p.2
def rH.below{v:Zb}(h:rH w n r v)(a:qB w W):rH W n r v:=⟨h.1.below a,λp b=>(h.2 p b).below a⟩
def rH.at{v:Zb}(h:rH w n r v){p:ay×Zb}(b:r[i]?=some p):∃g cap,v=qL g r.length cap/\g<w.heap.size /\
 w.cell? ⟨g,i*5,none⟩=some (qT p.1.name)/\w.cell? ⟨g,i*5+1,none⟩=some (qT p.1.aY)/\w.cell? ⟨g,i*5+2,none⟩=some (qI p.1.type)/\w.cell? ⟨g,i*5+3,none⟩=some p.2/\w.cell? ⟨g,i*5+4,none⟩=some (.bool p.1.eC):=by
 obtain⟨a,cap,rfl,d⟩:=h.1;obtain⟨g,rfl,e,c⟩:=d (by rintro rfl;simp at b);exact⟨g,cap,rfl,e,c i p b 0 _ rfl,c i p b 1 _ rfl,c i p b 2 _ rfl,c i p b 3 _ rfl,c i p b 4 _ rfl⟩
def fg.l:∀{aN:Y3}{c:Y0},fg w n aN c->∃b:List<|ay×Zb,b.map (·.1)=aN/\c=b.flatMap U5/\∀p∈b,bz w n p.1.aW p.2
 |[],c,h=>⟨[],rfl,h,λp a=>by cases a⟩
 |it::aN,c,⟨a,rest,hcs,ht,hr⟩=>by
  obtain⟨b,e,g,h⟩:=fg.l hr;refine⟨(it,.pointer a)::b,by simp[e],by rw[hcs,g];rfl,λp d=>?_⟩;obtain rfl|d:=V8.1 d
  .exact ht
  exact h p d
def e7.y{b:Y3}{v:Zb}(h:e7 w n k b v):∃a:List<|ay×Zb,a.map (·.1)=b/\rH w n a v:=by obtain⟨i,d,hi⟩:=h;obtain⟨a,c,e,g⟩:=hi.l;refine⟨a,c,?_,g⟩;rw[e,<-c,VL]at d;exact c7 (f:=U5) (λ_=>rfl) d qZ
def rH.q{v:Zb}(h:rH w n r v):Hz w w.heap.size (r.map λp=>(p.1.aW,p.2)) v:=by
 obtain⟨a,c,rfl,d⟩:=h.1;refine⟨a,c,by simp,λk=>?_⟩;obtain⟨g,rfl,j,e⟩:=d (by rintro rfl;exact k rfl);refine⟨g,rfl,j,λi p b=>?_⟩;rw[VO]at b;cases hi:r[i]? with
 |none=>rw[hi]at b;cases b
 |some q=>rw[hi]at b;cases b;exact e i q hi 3 _ rfl
def Dd(ks:Y4):Y0:=ks.map λk=>qI (k:Nat)
def th(w:Za)(o:aV Y4)(e:Zg)(w':Za):Prop:=qB w w' /\
 ((∃er,o=.error er/\e=.returned (.tuple #[qN,qI (er:Nat)])) \/
  (∃ks v,o=.ok ks/\e=.returned (.tuple #[v,qI 0])/\w'.ownsRow w.heap.size 3 1 v ks.length (Dd ks)))
def mM(t:bV)(aN:Y3)(wh:aA):aV<|Y4:=match b_ t [] aN with
 |.error e=>.error e
 |.ok ks=>match aT (ax t.name t) (aK wh) 3 with
  |some e=>.error e
  |none=>.ok ks
def PU:(prog.info? 3).map (λi=>(i.zero,i.size,i.bytes))=some (some<|qI 0,1,8):=by kernel_rfl
def kI(o:Option Nat)(l:Y4):Int:=match o with
 |none=>-1
 |some k=>if l.contains k=true then -1 else (k:Nat)
def Sh(o:Option Nat):kI o []=nk o:=by cases o<;>rfl
def xe(k:Nat)(l:Y4):kI (some k) l=if k∈l then -1 else (k:Int):=by simp[kI]
def Sf{o:Option Nat}{l:Y4}(h:(n:Int)=kI o l):kI o (l++[n])=-1:=by
 cases o with
 |none=>rfl
 |some k=>
  rw[xe]at h ⊢;split at h
  .rw[VG<|by simp_all]
  rw[VG (by simp;right;omega)]
def P1{o:Option Nat}{l:Y4}(h:¬(n:Int)=kI o l):kI o (l++[n])=kI o l:=by
 cases o with
 |none=>rfl
 |some k=>
  rw[xe]at h ⊢;rw[xe];by_cases a:k∈l
  .rw[VG a,VG<|by simp[a]]
  rw[VF a]at h;rw[VF a,VF (by simp[a];omega)]
def Si(o:Option Nat)(l:Y4):kI o l=-1\/∃k:Nat,o=some k/\l.contains k=false/\kI o l=k:=by
 cases o with
 |none=>exact .inl rfl
 |some k=>
  rw[xe];by_cases a:k∈l
  .exact .inl<|VG a
  exact .inr ⟨k,rfl,by simpa using a,VF a⟩
def Se{t:bV}{a:Y4}{b:ay}{c:Y3}(h:kI (dY t b.name) a=-1):b_ t a (b::c)=.error 2:=by
 cases hc:dY t b.name with
 |none=>exact sX hc
 |some k=>
  rw[hc,xe]at h;refine rD hc ?_;split at h
  .simpa
  omega
def UB{t:bV}(l:fG){rb:Nat}{u0 u1 u3 u5 u6 u7 u8 u9:Zb}(h:tQ w G l t)(E:∀k,G k->k<w.heap.size)(y:ij t)
 (q:w.heap[n]?=some (.cells #[u0,u1,z,u3,A,u5,u6,u7,u8,u9] 111))(j:rH w rb r z)(g:∀p∈r,cY p.1.aW/\dX p.1.aW)(a4:r.length<=1000)(i:Mn w rb R A):
 Zc prog 83 #[.pointer<|some ⟨l.n,0,none⟩,.pointer<|some ⟨n,0,none⟩] w (th w<|mM t (r.map (·.1)) R):=by
 have aO:=lB q;obtain⟨ia,ic,rfl⟩:=j.1.slice;obtain⟨wa,rfl⟩:∃a,A=.pointer a:=by
  rcases i with⟨_,rfl⟩|⟨B,_,D⟩
  .exact⟨_,rfl⟩
  obtain⟨a,rfl⟩:=D.ptr B.1;exact⟨_,rfl⟩
 obtain⟨cv,c,⟨cs,b,d⟩,-⟩:=h.q;have ah:=lB c;obtain⟨fa,fc,rfl,_⟩:=cz b;obtain⟨i0,aM,aP,aQ,aR⟩:=V5 PU;have HN:=Z q;have V:=Z j;have aG:=Z g;have HC:=Z i;have az:=Z c;have ap:=Z b;have ar:=Z d;have aC:=Z y;have aZ:=y.b;have aq:Ze (∀W nm,Zd w.heap.size w W->_):=λW nm C=>RX nm t (bB C ah c) (aB C b) d (by omega);have T:Ze (∀W,Zd w.heap.size w W->_):=λW C=>Fv h E y t.name (.inl ⟨rfl,rfl⟩) C;have ab:=Z<|xH (src:=t.name) y;generalize x:mM t (r.map (·.1)) R=o;have HO:=Z x;have av:Ze<|b_ t [] (r.map (·.1))=b_ t [] ((r.drop 0).map (·.1)):=rfl;clear q j g i c b d y h E x;go_in;go_wp2_with fail
 go_loopw [6,7] (λs6 s7 wr=>∃(i:Nat) (b:Y4),i<=r.length/\s7=.int .i64 i/\Ze (Zd w.heap.size w wr/\wr.ownsRow w.heap.size 3 1 s6 b.length (Dd b)/\b.length=i/\b_ t [] (r.map (·.1))=b_ t b ((r.drop i).map (·.1)))) (λ_ s7 _=>r.length-(Zk s7).toNat)
 case atStart=>exact⟨0,[],Wi _,rfl,VM _ _,VP _ _ _ _,rfl,av.o⟩
 case round=>
  obtain⟨i,b,a1,rfl,x⟩:=hrel;obtain⟨q,d,h,j⟩:=x.o;have N:=q.size;have g:=bB q aO HN.o;have m2:=bC g 2;have m4:=bC g 4;simp at m2 m4;have J:=lB g;have c:=bB q ah az.o;have j0:=bC c 0;have j1:=bC c 1;simp at j0 j1;have ai:=lB c;obtain⟨va,vc,rfl,a5⟩:=cz d;have B:=Z q;have M:=Z d;have O:=Z h;have H:=Z j;clear g c d h j x;by_cases E:i<r.length
  .have P:r[i]?=some r[i]:=VE E;have K:Ze<|r.drop i=r[i]::r.drop (i+1):=VJ E;have c:=VQ E;generalize r[i]=p at*;obtain⟨I,pv⟩:=p;obtain⟨g,_,he,aL,e0,_,_,e3,_⟩:=(V.o.below q).at P;cases he;have a3:((i:Nat):Int)<((r.length:Nat):Int):=by omega
   have F:=Z<|aq.o wr I.name q;obtain⟨h,x⟩:=aG.o _ c;have j:=(V.o.2 _ c).below q;obtain⟨pa,al⟩:=j.ptr h.1;simp only at al e0 e3;subst al;have aa:=Z h;have ac:=Z x;have ad:=Z j;generalize L:dY t I.name=co at*;have D:=Z L;rw[<-Sh]at F;have aH:b.length<=1000:=by have:=O.o;omega
   clear q P c h x j L;go_wp2_with fail;apply(U F).mono;rintro e w1⟨rfl,rfl⟩;clear F;go_wp2_with fail
   go_loopw [8,9] (λs8 s9 wr=>wr=w1/\∃m:Nat,m<=b.length/\s9=.int .i64 m/\s8=.int .i64 (kI co<|b.take m)) (λ_ s9 _=>b.length-(Zk s9).toNat)
   case atStart=>exact⟨rfl,0,Wi _,rfl,rfl⟩
   obtain⟨rfl,m,hm,rfl,rfl⟩:=hrel;by_cases aN:m<b.length
   .have c:b[m]?=some b[m]:=VE aN;have j:Ze<|b.take (m+1)=b.take m++[b[m]]:=by unfold Ze;rw[V9,c];rfl
    generalize b[m]=x at*;obtain⟨X,_,he,_,L,S⟩:=dA M.o (j:=m) (u:=.int .i64 (x:Nat)) (by simp[Dd,c]);cases he;have P:((m:Nat):Int)<((b.length:Nat):Int):=by omega
    by_cases h:(x:Int)=kI co (b.take m)
    .have Q:((x:Int)==kI co (b.take m))=true:=by simpa using h
     have F:Ze<|kI co (b.take<|m+1)=-1:=by unfold Ze;rw[j.o];exact Sf h
     clear h c;go_wp2_with fail;go_roundw
     case rel=>exact⟨trivial,m+1,by omega,by go_num,by rw[F.o]⟩
     simp[Zk];omega
    have Q:((x:Int)==kI co (b.take m))=false:=by simpa using h
    have F:Ze<|kI co (b.take<|m+1)=kI co (b.take m):=by unfold Ze;rw[j.o];exact P1 h
    clear h c;go_wp2_with fail;go_roundw
    case rel=>exact⟨trivial,m+1,by omega,by go_num,by rw[F.o]⟩
    simp[Zk];omega
   obtain rfl:m=b.length:=by omega
   rw[Wj];rcases Si co b with hk|⟨k,F,af,hk⟩
   ·have c:Ze<|th w o (.returned<|.tuple #[.slice none 0 0,.int .i64 2]) wr:=⟨B.o,.inl ⟨2,by
     rw[<-HO.o];unfold mM
     rw[H.o,K.o,We,Se (by rw[D.o];exact hk)],rfl⟩⟩
    rw[hk];clear hk;go_wp2_with fail;exact VI (v:=.tuple #[.slice none 0 0,.int .i64 2]) (by simp[Zh,results83,go_sem]) rfl c.o
   rw[hk];have ag:k<t.a.length:=wG<|D.o.trans F;have j:t.a[k]?=some t.a[k]:=VE ag;have P:t.a.getD k ([],0)=t.a[k]:=by simp[List.getD,j]
   have aI:=(aC.o.a _<|VQ ag).1;generalize t.a[k]=c at*;obtain⟨gf,_,he,_,aJ,ef⟩:=dA (aB B.o ap.o) (ar.o k c j).2;cases he;have a2:((k:Nat):Int)<((t.a.length:Nat):Int):=by omega
   have X:=Z F;have Y:=Z af;have S:=Z P;have am:=Z<|T.o wr.drew B.o.drew;have an:Ze (∀W W' v,Zd wr.heap.size wr W->mi W (ax t.name t) (List.replicate t.a.length aE) v W'->Zc prog 79 #[.pointer<|some pa,v,.int .i64 c.2] W' λe w'=>∃x,e=.returned x/\(x=.int .i64 ((aT (ax t.name t) I.aW c.2).getD 0:Nat)/\Zd wr.heap.size wr w')):=λW W' v C hp=>by have hb:Zd wr.heap.size wr W':=C.trans<|hp.2.1.mono C.size;apply(EO ab.o aa.o ac.o (by omega) (ad.o.below hb) hp.c).mono;rintro e w'⟨rfl,h⟩;exact⟨_,rfl,rfl,hb.trans<|h.mono hb.size⟩
   have Q:Ze<|Zd wr.heap.size wr wr.drew:=(VM _ _).drew;generalize ak:aT (ax t.name t) I.aW c.2=oe at*;have L:=Z ak;clear ak hk F af j P aI;go_upto_region 13 with fail
   go_cut [10]from 12 to 74 (λaS wx=>aS=.int .i64 ((oe.getD 0:Nat):Int)/\Ze (Zd wr.heap.size wr wx))
   case first=>
    go_region_law (first
     | (refine eN rfl (.tmp 53) (.tmp 57) (.const<|.slice none 0 0) rfl ki (by simp[Act.eval,Act.put]) (by simp[Act.eval,Act.put]) (by simp[Act.eval,Act.put]) (U am) ?_
        rintro v3 P F;have j:=Z F;obtain⟨⟨bc,m3,c3,rfl⟩,-⟩:=F;have h:Zd wr.heap.size wr P:=Q.o.trans j.o.2.1;have ba:n<P.heap.size:=(by have:=h.size;omega);have aY:=(VK<|h.block n J).trans m2;have a8:g<P.heap.size:=(by have:=h.size;omega);have aW:=(VK<|h.block g aL).trans e3;have a9:l.n<P.heap.size:=(by have:=h.size;omega);have aX:=(VK<|h.block l.n ai).trans j1;have a7:gf<P.heap.size:=(by have:=h.size;omega);have aV:=(VK<|h.block gf aJ).trans ef
        clear h)
     | (refine eN rfl (.tmp 52) (.tmp 58) (.tmp 66) rfl pI (by simp[Act.eval,Act.put]) (by simp[Act.eval,Act.put]) (by simp[Act.eval,Act.put]) ((U an) _ _ _ Q.o j.o) ?_
        rintro v4 w4⟨rfl,h⟩;have aF:=Z h
        clear h))
    all_goals go_wp2_with fail
    all_goals go_meet
    all_goals exact⟨rfl,aF.o⟩
   obtain⟨rfl,P⟩:=hcut;have F:=Z<|B.o.trans<|P.o.mono N;cases hoe2:oe with
   |some h=>
    have j:h=2\/h=3:=fu<|L.o.trans hoe2;have a0:(((h:Nat):Int) != 0)=true:=by simp;omega
    have HE:Ze<|th w o (.returned<|.tuple #[.slice none 0 0,.int .i64 (h:Nat)]) wc:=⟨F.o,.inl ⟨h,by
     rw[<-HO.o];unfold mM
     rw[H.o,K.o,We,uL (D.o.trans X.o) Y.o (by rw[S.o];exact L.o.trans hoe2)],rfl⟩⟩
    clear hoe2 j;simp only[W8];go_wp2_with fail;exact VI (v:=.tuple #[.slice none 0 0,.int .i64 (h:Nat)]) (by simp[Zh,results83,go_sem]) rfl HE.o
   |none=>
    have au:Ze<|b_ t [] (r.map (·.1))=b_ t (b++[k]) ((r.drop<|i+1).map (·.1)):=by unfold Ze;rw[H.o,K.o,We,sY (D.o.trans X.o) Y.o (by rw[S.o];exact L.o.trans hoe2)]
    have d:=aB P.o M.o;have a6:=F.o.size;clear hoe2;simp only[W7];go_wp2_with (at_builtin;refine VS _ rfl (.tmp 71) (.tmp 73) 44 rfl w.heap.size 3 i0 _ 1 8 underlying44 aM aP aQ aR rfl (by decide) _ _ _ rfl (d.alloc _) ⟨wc.heap.size,0,none⟩ 1 1 [.int .i64 (k:Nat)] rfl rfl ?c1 ?c2 ?c3 ?c4 ?c5 ?_);try (case c1=>exact cW wc [.int .i64 (k:Nat)] 3)
    try (case c2=>first|rfl|(intro x hx;simp at hx;subst hx;rfl))
    case c3=>unfold Zj;omega
    case c4=>omega
    try (case c5=>first|omega|(simp;omega))
    intro v' w4 h ae aj;have aw:Ze<|Zd w.heap.size w w4/\w4.ownsRow w.heap.size 3 1 v' (b++[k]).length (Dd<|b++[k])/\(b++[k]).length=i+1/\b_ t [] (r.map (·.1))=b_ t (b++[k]) ((r.drop<|i+1).map (·.1)):=
     ⟨a_ (F.o.alloc F.o.size _) ae (λj hj=>(d.lt j hj).1) (by simp;omega),by simpa[Dd]using h,by simp[O.o],au.o⟩
    clear d h ae aj;go_wp2_with fail;go_roundw
    case rel=>exact⟨i+1,b++[k],by omega,by go_num,aw⟩
    simp[Zk];omega
  obtain rfl:i=r.length:=by omega
  have P:Ze<|b_ t [] (r.map (·.1))=.ok b:=by unfold Ze;rw[H.o,Wa];rfl
  have c:Ze (∀W,Zd wr.heap.size wr W->aT (ax t.name t) (aK R) 3=none->th w o (.returned<|.tuple #[.slice va b.length vc,.int .i64 0]) W):=λW C D=>⟨B.o.trans<|C.mono N,.inr ⟨b,_,by rw[<-HO.o];unfold mM;rw[P.o];simp only[D],rfl,aB C M.o⟩⟩;have L:Ze (∀W j,Zd wr.heap.size wr W->aT (ax t.name t) (aK R) 3=some j->th w o (.returned<|.tuple #[.slice none 0 0,.int .i64 (j:Nat)]) W):=λW j C D=>⟨B.o.trans<|C.mono N,.inl ⟨j,by rw[<-HO.o];unfold mM;rw[P.o];simp only[D],rfl⟩⟩;have HB:=B.o;generalize th w o=aU at*;rcases HC.o with⟨hw,I⟩|⟨y,S,F⟩
  .cases I;have g:=Z<|c.o wr (VM _ _) (by rw[hw];exact oH _);clear hw HB q;go_wp2_with fail;exact g.o
  obtain⟨ad,I⟩:=F.ptr y.1;cases I;have g:=F.below HB;have Y:=Z<|T.o wr.drew HB.drew;have ao:Ze (∀W X v,Zd wr.heap.size wr W->mi W (ax t.name t) (List.replicate t.a.length aE) v X->Zc prog 79 #[.pointer<|some ad,v,.int .i64 3] X λe w'=>∃x,e=.returned x/\(x=.int .i64 ((aT (ax t.name t) (aK R) 3).getD 0:Nat)/\Zd wr.heap.size wr w')):=λW X v C hp=>by have U:Zd wr.heap.size wr X:=C.trans<|hp.2.1.mono C.size;rw[lg y];apply(EO ab.o y S (by decide) (g.below U) hp.c).mono;rintro e w'⟨rfl,h⟩;exact⟨_,rfl,rfl,U.trans<|h.mono U.size⟩
  have K:Ze<|Zd wr.heap.size wr wr.drew:=(VM _ _).drew;generalize Q:aT (ax t.name t) (aK R) 3=oe at*;have aD:=Z Q;clear y S F Q g HB q;go_upto_region 18 with fail
  go_cut [11] (λF wx=>F=.int .i64 ((oe.getD 0:Nat):Int)/\Ze (Zd wr.heap.size wr wx))
  case first=>
   go_region_law (first
    | (refine eN rfl (.tmp 84) (.tmp 88) (.const<|.slice none 0 0) rfl ki (by simp[Act.eval,Act.put]) (by simp[Act.eval,Act.put]) (by simp[Act.eval,Act.put]) (U Y) ?_
       rintro v3 Q q;have h:=Z q;obtain⟨⟨a3,m3,c3,rfl⟩,-⟩:=q;have g:Zd wr.heap.size wr Q:=K.o.trans h.o.2.1;have bb:n<Q.heap.size:=(by have:=g.size;omega);have S:=(VK<|g.block n J).trans m4
       clear g)
    | (refine eN rfl (.tmp 83) (.tmp 89) (.const<|.int .i64 3) rfl pI (by simp[Act.eval,Act.put]) (by simp[Act.eval,Act.put]) (by simp[Act.eval,Act.put]) ((U ao) _ _ _ K.o h.o) ?_
       rintro v4 w4⟨rfl,g⟩;have y:=Z g
       clear g))
   all_goals go_wp2_with fail
   all_goals go_meet
   all_goals exact⟨rfl,y.o⟩
  obtain⟨rfl,g⟩:=hcut;cases hoe2:oe with
  |some j=>
   have h:=Z<|L.o wc j g.o hoe2;have q:(((j:Nat):Int) != 0)=true:=by have:=fu<|aD.o.trans hoe2;simp;omega
   clear hoe2;simp only[W8];go_wp2_with fail;exact h.o
  |none=>
   have h:=Z<|c.o wc g.o hoe2;clear hoe2;simp only[W7];go_wp2_with fail;exact h.o
def mc:YW->Y4->YW->YW
 |out,k::ks,v::vs=>mc (out.set k v) ks vs
 |out,_,_=>out
def px :∀ {ks:Y4}{a:Y6}{out:YW},ks.length=a.length->gO F I out ks a=(match bH F I a with
 |.error e=>.error e
 |.ok vs=>.ok<|mc out ks vs)
 |[],[],out,_=>rfl
 |[],_::_,out,h=>by simp at h
 |_::_,[],out,h=>by simp at h
 |k::ks,t::a,out,h=>by
  rw[gO,bH];cases bZ F I t with
  |error e=>rfl
  |ok v=>
   simp only;rw[px<|by simpa using h];cases bH F I a<;>rfl
def Ez{a:Y4}{v:ai}(d:a[j]?=some k)(e:J[j]?=some v):mc I (a.drop j) (J.drop j)=mc (I.set k v) (a.drop<|j+1) (J.drop<|j+1):=by obtain⟨b,rfl⟩:=VZ.1 d;obtain⟨c,rfl⟩:=VZ.1 e;rw[VJ b,VJ c,mc]
structure Te(w wr:Za)(ab:YY)(c:aA)(ks:Y4)(ts:Y6)(ps:YZ)(i:Nat)(v:Zb)(lG:Nat)(qs:YZ):Prop where
 d:qB w wr
 own:wr.ownsRow w.heap.size 32 1 v qs.length<|df qs
 nil:qs=[]->v=qN
 each:∀q∈qs,wr.ownsRow w.heap.size 34 3 q.2 q.1.length<|c_ q.1
 len:qs.length=i
 go:cV ab c ks ts (ps.map (·.1))=gD (qs.map (·.1)) lG (cV ab c ks ts<|(ps.drop i).map (·.1))
 a:lG<=i
def Te.push{wr:Za}{g:Y4}{l:Y6}{v nv:Zb}(h:Te w wr F R g l o i v n p)(d:qB wr W)(y:W.ownsRow wr.heap.size 34 3 nv I.length<|c_ I)
 (c:x.ownsRow w.heap.size 32 1 u (p.length+1)<|df p++[nv]) (r:W.grownBy x v.ownBlock) (t:gD (p.map (·.1)) n (cV F R g l<|(o.drop i).map (·.1))=gD (p.map (·.1)++[I]) j (cV F R g l<|(o.drop<|i+1).map (·.1))) (A:j<=i+1):Te w x F R g l o (i+1) u j<|p++[(I,nv)]:=by
 have z:=h.d.size;have B:=d.size;have b:=aB d h.own;refine⟨a_ (h.d.trans<|d.mono z) r (λk hk=>(h.own.lt k hk).1)<|by omega,by simpa[df]using c,λe=>by simp at e,λq a=>?_,by simp[h.len],by rw[Wc];exact h.go.trans t,A⟩;obtain a|a:=V1.1 a
 .exact eU (aB d<|h.each q a) b r<|by decide
 .simp at a;subst a;exact bU (eU y b r<|by decide) z
def GU{t:bV}:∀{aN:Y3}{a:Y4}{b:Nat},b_ t a aN=.error b->b=2\/b=3
 |[],a,b,h=>by cases h
 |it::aN,a,b,h=>by
  unfold b_ at h;cases hc:dY t it.name with
  |none=>rw[hc]at h;cases h;exact .inl rfl
  |some k=>
   rw[hc]at h;simp only at h;split at h
   .cases h;exact .inl rfl
   cases ht:aT (ax t.name t) it.aW ((t.a.getD k ([],0)).2)with
   |some e=>rw[ht]at h;cases h;exact fu ht
   |none=>rw[ht]at h;exact GU h
def GS{s:aX}(h:bO K s.table=some i)(a:mM (ak K i) s.c s.d=.error n):cS K s=(K,di n)/\(n=2\/n=3):=by
 unfold mM at a;cases hg:b_ (ak K i) [] s.c with
 |error e=>rw[hg]at a;cases a;exact⟨AP h hg,GU hg⟩
 |ok ks=>
  rw[hg]at a;simp only at a;cases ht:aT (ax (ak K i).name<|ak K i) (aK s.d) 3 with
  |some e=>rw[ht]at a;cases a;exact⟨AQ h hg ht,fu ht⟩
  |none=>rw[ht]at a;cases a
def Jt{t:bV}{b:Y3}{c:Y4}(a:mM t b R=.ok c):b_ t [] b=.ok c/\aT (ax t.name t) (aK R) 3=none:=by
 unfold mM at a;cases hg:b_ t [] b with
 |error e=>rw[hg]at a;cases a
 |ok ks'=>
  rw[hg]at a;simp only at a;cases ht:aT (ax t.name t) (aK R) 3 with
  |some e=>rw[ht]at a;cases a
  |none=>rw[ht]at a;cases a;exact⟨rfl,rfl⟩
def Qw{t:bV}{d:Y4}{e:Y6}(h:nK t d e)(i:R∈e):∃b,bD (ax t.name t) R=.ok b:=by
 obtain⟨j,c⟩:=Wn.1 i;have a:j<d.length:=by rw[h.1];exact bw c
 obtain⟨b,g,_⟩:=gv (h.2 j _ R (VE a) c).2;exact⟨b,g⟩
def QL(lo:Nat)(s:aX)(hs:eL s)(hk:s.aC=117){u0 u3 u5 u6 u7 u8 u9:Zb}{b:Nat}{bw:Y5}(h:jE w G b bw K)(bV:lo<=w.heap.size)
 (hn:w.heap[n]?=some (.cells #[u0,qT s.table,A,u3,B,u5,u6,u7,u8,u9] 111)){rb:Nat}{a4:List (ay×Zb)}(X:a4.map (·.1)=s.c)(hi:rH w rb a4 A)(b5:∀i∈s.c,dX i.aW)(hc:Mn w rb s.d B):
 Zc prog 51 #[qP b,qP n] w (kT lo w G b<|cS K s):=by
 have n1:=bC hn 1;have n2:=bC hn 2;have n4:=bC hn 4;simp at n1 n2 n4;have HF:=Z<|Db s.table h;have HN:=Z hn;have HX:=Z h;have HC:=Z hc;have HS:=Z hs;have O:=Z hi;have ar:=Z X;have be:Ze (∀p∈a4,cY p.1.aW/\dX p.1.aW):=λp hp=>by
  have d:p.1∈s.c:=by rw[<-X];exact V0 hp
  exact⟨hs.c (by omega) _ d,b5 _ d⟩
 have aS:a4.length<=1000:=by have:=Wd List.length X;rw[VL]at this;have:=hs.len;omega
 generalize bL:cS K s=out;have N:=Z bL;have ah:Ze (∀er w',out=(K,di er)->qB w w'->kT lo w G b out (.returned<|.tuple #[qI 0,qI (er:Nat)]) w'):=λer w' ho hb=>by rw[ho];exact⟨rfl,G,bw,ei.below h hb⟩
 have bk:Ze (∀w' M' ac D' (c:Int),out=(D',⟨[],c,0⟩)->ei lo w G b D' w' M' ac->kT lo w G b out (.returned<|.tuple #[qI c,qI 0]) w'):=λw' M' ac D' c ho aY=>by rw[ho];exact⟨rfl,M',ac,aY⟩
 generalize kT lo w G b out=ch at*;obtain⟨wa,rfl⟩:∃a,B=.pointer a:=by
  obtain⟨_,rfl⟩|⟨d,_,g⟩:=hc
  .exact⟨_,rfl⟩
  obtain⟨a,rfl⟩:=g.ptr d.1;exact⟨_,rfl⟩
 obtain⟨ia,ic,rfl⟩:=hi.1.slice;cases hta:bO K s.table with
 |none=>
  rw[hta]at HF;have d:=Z<|ah 2 w (by rw[<-N];exact AO hta) qW;simp only[iA]at HF;go_in;go_wp2_with fail;apply qS HF;go_wp2;exact d
 |some i=>
  obtain⟨l,(HL:Ze _),(bg:Ze _),bq⟩:=HX.d<|cx hta;rw[hta,bq]at HF;have hT:=HX.c i l _ HL bg;have C:=HX.ok.2 _<|dS<|cx hta;obtain⟨cv,(bb:Ze _),-⟩:=hT.q;obtain⟨ra,rc,(aL:Ze _),cK⟩:=cz hT.rows;have Q:=Z hta;have bJ:=Z hT;have cw:=Z C;have ct:=C.d;have bM:=C.pos;have ck:=C.b;have a7:Ze (∀W,qB w W->∀row u,((u=qN/\row=List.replicate (ak K i).a.length aE)\/(row.length=(ak K i).a.length/\br w w.heap.size 3 vC row u))->_):=λW hW row u hr=>Fv hT HX.lt C (ak K i).name hr hW;have aM:=Z<|xH (src:=(ak K i).name) C;have P:=Z<|UB l hT HX.lt C HN O be aS HC;obtain⟨(T:Ze _),ao,(bK:Ze _)⟩:=Ex hT;have bm:((ak K i).rows.zip l.us).length=(ak K i).rows.length:=by rw[<-Wd List.length T,VL]
  have HP:Ze (∀(k:Nat) (p:au),((ak K i).rows.zip l.us)[k]?=some p->l.us[k]?=some p.2/\aZ (ax (ak K i).name<|ak K i) p.1):=λk p hp=>by refine⟨by rw[<-ao,df,VO,hp];rfl,(C.rows p.1 ?_).src⟩;rw[<-T];exact V0<|VY hp
  have a6:Ze<|(ax (ak K i).name<|ak K i).length=(ak K i).a.length:=cH _ _;rw[ar]at P;have bi:Ze<|a4.map (λp=>p.1.aW)=s.c.map (·.aW):=by rw[Ze,<-ar,Ww];rfl
  generalize cI:(ak K i).rows.zip l.us=D at*;have aG:=Z bm;obtain⟨i0,bR,cb,cc,cd⟩:=V5 iN;obtain⟨q0,b4,b7,b8,b9⟩:=V5 mK;go_in;go_wp2_with fail;apply qS HF;go_wp2_with refine P.mono ?_;rintro e w2⟨(aA:Ze _),b0⟩;have ao:=aA.size;obtain⟨er,aW,rfl⟩|⟨ks,kv,aW,rfl,(ba:Ze _)⟩:=b0
  .obtain⟨d,g⟩:=GS Q aW;have o:((er:Int) != 0)=true:=by simp;omega
   have j:=Z<|ah er w2 (by rw[<-N];exact d) aA;go_wp2;exact j
  obtain⟨(ag:Ze _),(R:Ze _)⟩:=Jt aW;obtain⟨ty,(bj:Ze _),-⟩:=gv R;obtain⟨m,hm,(M:Ze _)⟩:=nJ ag;simp at hm;subst hm;obtain⟨ka,kc,rfl,_⟩:=cz ba;have y:Ze (∃ab,ax (ak K i).name (ak K i)=ab):=⟨_,rfl⟩;obtain⟨ab,V⟩:=y.o;rw[V]at HP aM a6 R bj a7;have y:=Z V;have b3:D.length<=25:=by have:=aG.o;omega
  have bE:Ze<|Te w2 w2 ab (aK s.d) ks (s.c.map (·.aW)) D 0 qN 0 []:=⟨qW,VP _ _ _ _,λ_=>rfl,λq hq=>(by cases hq),rfl,by simp[rV],qZ⟩;go_wp2
  go_loopw [9,10,11] (λs9 ce a1 wr=>∃(k lG:Nat) (qs:YZ),k<=D.length/\a1=qI k/\s9=qI lG/\lG<=25/\Ze (Te w2 wr ab (aK s.d) ks (s.c.map (·.aW)) D k ce lG qs)) (λ_ _ a1 _=>D.length-(Zk a1).toNat)
  exact⟨0,0,[],qO,rfl,rfl,by omega,bE⟩;generalize wr=J at*;obtain⟨k,lG,qs,cE,rfl,rfl,cl,L⟩:=hrel;have H:=aA.trans<|L.d.mono ao;have ap:=H.size;have bv:=L.d.size;have am:=bB H (lB hn) HN;have m2:=bC am 2;have m4:=bC am 4;simp at m2 m4;have aw:=lB am;have al:=bB H (lB bb) bb;have j0:=bC al 0;have j2:=bC al 2;simp at j0 j2;rw[aL,<-aG]at j2;obtain⟨va,vn,b_,cL⟩:=cz L.own;subst b_;have bc:=Z am;have bG:=Z al;by_cases aU:k<D.length
  ·have E:D[k]?=some D[k]:=VE aU;have af:Ze<|D.drop k=D[k]::D.drop (k+1):=VJ aU;have t:=VQ aU;generalize D[k]=p at*;obtain⟨x,r⟩:=HP.o k p E;obtain⟨g,_,he,_,bQ,e0⟩:=dA (aB H bJ.rows) x;rw[aL]at he;cases he;obtain⟨d,pv⟩:=p;have o:=bK.o _ t;simp only at o r e0 x;have j:d.length=(ak K i).a.length:=r.1.trans a6;obtain⟨gp,pc,rfl⟩:∃g c,pv=qL g d.length c:=by
    obtain⟨_,F⟩|⟨g,c,_,h,_⟩:=o.1.2
    .omega
    exact⟨g,c,h⟩
   have bz:=Z<|a7 J.drew H.drew d (qL gp d.length pc)<|.inr ⟨j,c7 (f:=vC) (λ_=>rfl) o.1 qZ⟩;have cG:(k:Int)<(D.length:Int):=by omega
   have bI:=Z o;have aJ:=Z r;have ae:=Z H;have bd:=Z j;have cr:0<d.length:=by omega
   have cs:d.length<=5:=by omega
   clear H o r x t E j;go_upto_region 12 with fail
   go_cut [12]from 36 to 113 (λcf wx=>∃a n c,cf=.slice a n c/\Ze (mi J.drew ab d (.slice a n c) wx))
   case first=>
    go_region_law (refine eN rfl (.tmp 45) (.tmp 49) (.tmp 56) rfl ki rfl rfl rfl bz ?_
                   rintro x E j;have o:=Z j
                   obtain⟨⟨r,t,c3,rfl⟩,-⟩:=j)
    all_goals go_wp2_with fail
    all_goals go_meet
    all_goals exact⟨_,_,_,rfl,o⟩
   obtain⟨la,ln,lc,rfl,aH⟩:=hcut;have aj:qB J wc:=qW.drew.trans aH.2.1;obtain⟨tb,te,(bh:Ze _)⟩:=oR<|bZ ab d<|aK s.d;have a8:=Z<|D9 aJ aM.1 bj (HC.below<|ae.trans<|aj.mono ap) aH.c;rw[bh]at a8;have aV:=bB aj aw bc;have c2:=bC aV 2;have c4:=bC aV 4;simp at c2 c4;have cq:=lB aV;have bx:=Z aj;go_wp2_with fail;apply qR a8;intro w3 bl;have U:=bx.trans<|bl.mono aj.size;have aa:=U.size;have bA:=Z<|aH.c.below bl;have aC:=Z U;have aq:=Z<|ae.trans<|U.mono ap;obtain⟨o,rfl⟩|⟨rfl,x,o,hx⟩:=tB bh.o
   .have r:((te:Int) != 0)=true:=by have:=jc o;simp;omega
    have j:=Z (ah te w3 (by
     rw[<-N];refine uZ Q ag (y▸R) ?_;rw[y,<-T,L.go,af]
     exact yH o) aq)
    go_wp2;exact j
   have aD:=Z o;have aN:=Z hx;have r:=bB aC (lB al) bG;have y2:=bC r 2;simp at y2;rw[aL,<-aG]at y2;have cp:=lB r;have e3:=(VK<|aC.block g bQ).trans e0;have cA:g<w3.heap.size:=by omega
   have bf:Ze (∀j u,(c_ d)[j]?=some u->w3.cell? ((⟨gp,0,none⟩:Addr).add j)=some u):=λj u hj=>by rw[addr_add];exact(iJ<|aB aq bI.1).2 j u hj
   have bH:Ze<|(c_ d).length=d.length*3:=kB d;clear o hx r;go_wp2_with (at_builtin;refine VS _ rfl (.tmp 70) (.tmp 77) 32 rfl w3.heap.size 34 q0 _ 3 32 underlying32 b4 b7 b8 b9 rfl (by decide) _ _ _ rfl (VP _ _ _ _) ⟨gp,0,none⟩ d.length pc (c_ d) rfl bH bf (Z<|Gu d) ?c3 ?c4 ?c5 ?_)
   case c3=>unfold Zj;omega
   case c4=>omega
   try (case c5=>first|omega|simp)
   intro nv w4 Y bN bX;obtain⟨F,nc,rfl⟩:∃g c,nv=qL g d.length c:=by
    obtain⟨_,r⟩|⟨g,c,_,h,_⟩:=Y.2
    .omega
    exact⟨g,c,h⟩
   have aO:qB w3 w4:=a_ qW bN (λk hk=>by cases hk) qZ;have cM:=aO.size;have ad:=Z<|aC.trans<|aO.mono aa;have a3:=Z aO;have ai:=Z Y
   go_upto_if 79 with fail
   go_cut [9,15]from 36 to 113 (λs9 cg wx=>∃(E:Nat) (r':YW),s9=qI E/\E<=k+1/\cg=qL F d.length nc/\Ze (qB J wx/\r'.length=d.length/\wx.ownsRow J.heap.size 34 3 (qL F d.length nc) d.length (c_ r')/\gD (qs.map (·.1)) lG (cV ab (aK s.d) ks (s.c.map (·.aW))<|(D.drop k).map (·.1))=gD (qs.map (·.1)++[r']) E (cV ab (aK s.d) ks (s.c.map (·.aW))<|(D.drop<|k+1).map (·.1))))
   case first=>
    cases tb with
    |false=>
     have HF:Ze<|qB J w4/\w4.ownsRow J.heap.size 34 3 (qL F d.length nc) d.length (c_ d)/\gD (qs.map (·.1)) lG (cV ab (aK s.d) ks (s.c.map (·.aW))<|(D.drop k).map (·.1))=gD (qs.map (·.1)++[d]) lG (cV ab (aK s.d) ks (s.c.map (·.aW))<|(D.drop<|k+1).map (·.1)):=by refine⟨ad,bU ai aa,?_⟩;rw[af];exact Ap aD λe=>by simpa using aN.2 e
     have r:=L.a;go_wp2;go_meet;exact⟨lG,d,rfl,by omega,rfl,HF.1,rfl,HF.2⟩
    |true=>
     have av:=ae.trans<|ad.mono ap
     have HV:=Z (Ac ab d (.slice la ln lc) (O.below av).q (λp hp=>by
      obtain⟨q,hq,rfl⟩:=VV.1 hp;obtain⟨bp,bs⟩:=be.o q hq;have bt:=(O.2 q hq).below av;obtain⟨pa,b2⟩:=bt.ptr bp.1;have b6:q.1.aW∈s.c.map (·.aW):=by rw[<-bi];exact V0 hq
      obtain⟨cO,az⟩:=Qw M b6;rw[y]at az
      exact⟨ER aJ aM.1 bp bs az bt<|bA.below a3,⟨_,b2⟩⟩) ⟨_,_,_,rfl⟩<|by simpa using aS)
     have bn:=bB ad aw bc;have c2:=bC bn 2;simp at c2;have bo:=lB bn;have bW:(a4.map λp=>(p.1.aW,p.2)).map (·.1)=s.c.map (·.aW):=by rw[<-bi,Ww];rfl
     rw[bW]at HV;go_wp2_with refine HV.mono ?_;rintro e w5⟨r,b1⟩;have cN:=r.size;have a5:=Z<|ad.trans<|r.mono (by omega);obtain⟨er,o,rfl⟩|⟨I,vv,o,rfl,a0⟩:=b1
     .have S:((er:Int) != 0)=true:=by have:=kF o;simp;omega
      have t:=Z (ah er w5 (by
       rw[<-N];refine uZ Q ag (y▸R) ?_;rw[y,<-T,L.go,af];refine vZ aD (aN.1<|by first|rfl|trivial) ?_
       rw[px M.1,o])<|ae.trans<|a5.mono ap)
      go_wp2;exact t
     have an:I.length=ks.length:=by have:=(lz aJ (λt ht=>by obtain⟨it,hit,rfl⟩:=VV.1 ht;exact HS.c (by omega) it hit) o).1;rw[this];exact M.1.symm
     have bT:ks.length<=1000:=by have t:=M.1;have h2:=HS.len;rw[VL]at t;omega
     obtain⟨xa,xc,rfl,_⟩:=cz a0;have S:=Z an;have cn:=(ai.lt F rfl).2;have aF:Ze<|qB J w5/\w5.ownsRow J.heap.size 34 3 (qL F d.length nc) d.length (c_ d)/\w5.ownsRow w4.heap.size 34 3 (.slice xa I.length xc) I.length (c_ I)/\mc d ks I=mc d (ks.drop 0) (I.drop 0):=
      ⟨a5,bU (aB r ai) aa,a0,rfl⟩
     have bD:=Z o;rw[an]at aF;rw[an];clear o r HV c2 bo a0 an;go_wp2
     go_loopw [18] (λa2 wx=>∃(j:Nat) (o:YW),j<=ks.length/\a2=qI j/\Ze (qB J wx/\o.length=d.length/\wx.ownsRow J.heap.size 34 3 (qL F d.length nc) d.length (c_ o)/\wx.ownsRow w4.heap.size 34 3 (.slice xa ks.length xc) ks.length (c_ I)/\mc d ks I=mc o (ks.drop j) (I.drop j))) (λa2 _=>ks.length-(Zk a2).toNat)
     exact⟨0,d,qO,rfl,aF.1,rfl,aF.2⟩;obtain⟨j,o,hj,rfl,HJ⟩:=hrel;obtain⟨jb,jl,jo,jv,js⟩:=HJ.o;by_cases t:j<ks.length
     ·have aT:ks[j]?=some ks[j]:=VE t;have bu:I[j]?=some (I[j]'(S▸t)):=VE _;generalize I[j]'(S▸t)=xv at*;generalize ks[j]=r at*;have cF:r<d.length:=by
       rw[bd];have bS:j<(s.c.map (·.aW)).length:=by rw[<-M.1];exact t
       exact(M.2 j r _ aT<|VE bS).1
      obtain⟨ga,_,he,_,cB,ea⟩:=dA (aB (L.d.trans<|jb.mono bv) ba) (j:=j) (u:=qI (r:Nat)) (by simp[Dd,aT]);cases he;obtain⟨gx,_,he,cC,x0,x1,x2⟩:=(c7 (f:=vC) (λ_=>rfl) (S▸jv) qZ).val (i:=j)<|S▸t;have ca:I.getD j aE=xv:=by simp[List.getD,bu]
      rw[ca]at x0 x1 x2;injection he with he1 he2 he3;subst he1;obtain⟨cy,aP⟩:=iJ jo;have cj:(c_ o).length=d.length*3:=by rw[kB,jl]
      have r0:=aP (r*3) _<|VE (show r*3<(c_ o).length by omega);have r1:=aP (r*3+1) _<|VE (show r*3+1<(c_ o).length by omega);have r2:=aP (r*3+2) _<|VE (show r*3+2<(c_ o).length by omega);obtain⟨ci,aR⟩:=xu jo F rfl;have f0:=bF aR<|r*3;have f1:=bF aR<|r*3+1;have f2:=bF aR<|r*3+2;have co:(r:Int)<(d.length:Nat):=by omega
      have cD:(j:Int)<(ks.length:Nat):=by omega
      have aQ:J.heap.size<=F:=by have:=(ai.lt F rfl).1;omega
      have a9:Ze<|qB J (xB wr F (r*3) xv).drew/\(o.set r xv).length=d.length/\(xB wr F (r*3) xv).drew.ownsRow J.heap.size 34 3 (qL F d.length nc) d.length (c_<|o.set r xv)/\(xB wr F (r*3) xv).drew.ownsRow w4.heap.size 34 3 (qL gx ks.length xc) ks.length (c_ I)/\mc d ks I=mc (o.set r xv) (ks.drop<|j+1) (I.drop<|j+1):=by refine⟨(((jb.setCell aQ _).setCell aQ _).setCell aQ _).drew,by rw[Wu];exact jl,?_,(Bz jv (λq hq=>by have:=(jv.lt q hq).1;omega)).drew,by rw[js];exact Ez aT bu⟩;have:=BA (row:=o) (x:=xv) (k:=r) (jl▸jo) (by omega);rw[Wu,jl]at this;exact this.drew
      unfold xB at a9;generalize (c_ o)[r*3]'_=y0 at*;generalize (c_ o)[r*3+1]'_=y1 at*;generalize (c_ o)[r*3+2]'_=y2 at*;go_upto_region 25 with fail
      go_region;all_goals go_wp2_with fail
      all_goals
       go_roundw;exact⟨j+1,o.set r xv,by omega,by go_num,a9⟩
       case measure=>simp[Zk];omega
     obtain rfl:j=ks.length:=by omega
     have HF:Ze<|qB J wr/\o.length=d.length/\wr.ownsRow J.heap.size 34 3 (qL F d.length nc) d.length (c_ o)/\gD (qs.map (·.1)) lG (cV ab (aK s.d) ks (s.c.map (·.aW))<|(D.drop k).map (·.1))=gD (qs.map (·.1)++[o]) (lG+1) (cV ab (aK s.d) ks (s.c.map (·.aW))<|(D.drop<|k+1).map (·.1)):=by refine⟨jb,jl,jo,?_⟩;rw[af];refine yI aD (aN.1<|by first|rfl|trivial) ?_;rw[px M.1,bD];simp only;rw[js,Wa,Wt<|S▸qZ];rfl
     have r:=L.a;go_wp2;go_meet;exact⟨lG+1,o,by go_num,by omega,rfl,HF⟩
   obtain⟨E,r',rfl,S,rfl,r⟩:=hcut;have cu:=r.1.size;have cJ:qs.length<=25:=by have:=L.len;omega
   go_wp2_with (at_builtin;refine VS _ rfl (.tmp 110) (.tmp 112) 29 rfl w2.heap.size 32 i0 _ 1 24 underlying29 bR cb cc cd rfl (by decide) _ _ _ rfl ((aB r.1 L.own).alloc _) ⟨wc.heap.size,0,none⟩ 1 1 [qL F d.length nc] rfl rfl ?d1 ?d2 ?d3 ?d4 ?d5 ?_);try (case d1=>exact cW wc [qL F d.length nc] 32)
   try (case d2=>first|rfl|(intro x hx;simp at hx;subst hx;rfl))
   case d3=>unfold Zj;omega
   case d4=>omega
   try (case d5=>first|omega|(simp;omega))
   intro v' w6 t bP bY;have I:Ze<|Te w2 w6 ab (aK s.d) ks (s.c.map (·.aW)) D (k+1) v' E<|qs++[(r',.slice (some ⟨F,0,none⟩) d.length nc)]:=L.o.push (r.o.1.alloc r.o.1.size _) (by rw[r.o.2.1];exact r.o.2.2.1.alloc _) t bP r.o.2.2.2 S;go_wp2_with fail;go_roundw;exact⟨k+1,E,_,by omega,by go_num,rfl,by omega,I⟩;simp[Zk];omega
  obtain rfl:k=D.length:=by omega
  have S:cV ab (aK s.d) ks (s.c.map (·.aW)) (D.map (·.1))=.ok (qs.map (·.1),lG):=by rw[L.go,Wa];simp[cV,gD]
  have aS:=cx Q;have o:=AR (z:=(qs.map (·.1),lG)) Q ag (y▸R) (by rw[y,<-T];exact S);have t:ec<|cm K i<|qs.map (·.1):=by have:=nW HS HX.ok;unfold d_ at this;rw[VF<|by omega,VF<|by omega,VF<|by omega,VG hk,o]at this;exact this
  obtain ⟨⟨I,d⟩,aY⟩:=GK (rows:=qs.map (·.1)) (us:=df qs) (v':=.slice va qs.length vn) HX.o HL.o bg.o H (by rw [VL];exact bU L.o.own ao) (λe=>L.o.nil<|Xs.1 e) (λj r u hr x=>by
   rw[VO]at hr;unfold df at x;rw[VO]at x;cases E:qs[j]? with
   |none=>rw[E]at hr;cases hr
   |some p=>
    rw[E]at hr x;cases hr;cases x;have g:=L.each p<|VY E
    exact⟨bU g qO,λk hk=>.inr ⟨by have:=(g.lt k hk).1;omega,(g.lt k hk).2⟩⟩) t
  have F:=Z<|bk _ _ _ _ lG (by rw[<-N];exact o)<|aY.low bV;have U:=bC d 2;have Y:=bF d 2;simp at U;have sz:=lB d;go_wp2;exact F
def Lh{d:Y_}:(Zi 194 d).run prog w=.ok (.enter 194 d) w:=by
 have g:(f194.name == "runtime.NumGoroutine")=false:=by kernel_rfl
 have c: f194.body.isNone=false:=by kernel_rfl
 have a:¬f194.name = "runtime.NumGoroutine":=by simpa using g
 have b:¬f194.body=none:=by intro e;rw[e]at c;cases c
 simp[Zi,go_sem,func194,a,b]
def Qd(a b:ai):fy a b=-1\/fy a b=0\/fy a b=1:=by
 unfold fy;repeat' split
 all_goals simp
def T1(U:br w w.heap.size 3 vC I u)(V:br w w.heap.size 3 vC J A)(X:br w w.heap.size 5 U5 t B)(C:I.length=t.length)(D:J.length=t.length)(hl:t.length<=1000)
 (j:∀(i:Nat) x y,I[i]?=some x->J[i]?=some y->fy x y=dz x y):
 Zc prog 137 #[u,A,B] w λe G=>e=.returned (.bool<|decide<|cq I J (t.map λp=>p.1.eC)<0)/\qB w G:=by
 obtain⟨ae,af,rfl⟩:=U.slice;obtain⟨ba,bc,rfl⟩:=V.slice;obtain⟨ka,kc,rfl⟩:=X.slice;have Y:=Z U;have HB:=Z V;have HK:=Z X;have k:=Z C;have K:=Z D;have HOr:=Z j;rw[C,D];generalize ho:decide (cq I J (t.map λp=>p.1.eC)<0)=o;have S:=Z ho;go_in;go_wp2
 go_loopw [7] (λR wr=>∃i:Nat,i<=t.length/\R=qI i/\Ze (qB w wr/\cq I J (t.map λp=>p.1.eC)=cq (I.drop i) (J.drop i) ((t.map λp=>p.1.eC).drop i))) (λR _=>t.length-(Zk R).toNat)
 exact⟨0,Wi _,rfl,VM _ _,rfl⟩
 case round=>
  obtain⟨i,hi,rfl,F⟩:=hrel;have a:=F.1;have Q:=a.size;by_cases b:i<t.length
  .have r:t[i]?=some t[i]:=VE b;have c:i<I.length:=by rw[k];exact b
   have d:i<J.length:=by rw[K];exact b
   obtain⟨ga,_,E,aa,a0,a1,a2⟩:=(Y.below a).val c;injection E with he1 he2 he3;subst he1;subst he3;obtain⟨gb,_,E,ab,b0,b1,b2⟩:=(HB.below a).val d;injection E with he1 he2 he3;subst he1;subst he3;obtain⟨xa,_,E,O⟩:=HK.below a;injection E with he1 he2 he3;subst he1;subst he3;obtain⟨T,rfl,P,O⟩:=O (by rintro rfl;simp at b);have k4:=O i _ r 4 _ rfl;have M:I[i]?=some (I.getD i aE):=by simp[List.getD,VE c]
   have N:J[i]?=some (J.getD i aE):=by simp[List.getD,VE d]
   have hd:(t.map λp=>p.1.eC).drop i=t[i].1.eC::(t.map λp=>p.1.eC).drop (i+1):=by rw[VJ<|by simpa using b];simp
   have l:I.drop i=I.getD i aE::I.drop (i+1):=by rw[VJ c];simp[List.getD,VE c]
   have n:J.drop i=J.getD i aE::J.drop (i+1):=by rw[VJ d];simp[List.getD,VE d]
   generalize t[i]=p at*;generalize I.getD i aE=x at*;generalize J.getD i aE=y at*;have g:=r_ l n hd;rw[<-HOr.o i _ _ M N]at g;have q:=Z g
   have L:Ze (Zc prog 194 #[.agg #[qI x.aC,qI x.n,qT x.s],.agg #[qI y.aC,qI y.n,qT y.s]] wr.drew λe G=>∃ v,e=.returned v/\(v=qI (fy x y)/\qB wr G)):=(Jc x y wr.drew).mono (by
    rintro e G⟨rfl,h⟩
    exact⟨_,rfl,rfl,(VM _ _).drew.trans h⟩)
   have j:=Qd x y;generalize fy x y=z at*;have ac:(i:Int)<(t.length:Int):=by omega
   have H:=Z a;clear a r M N hd l n g;go_upto_region 4 with fail
   go_cut [8]from 9 to 34 (λs8 wx=>s8=qI z/\Ze (qB wr wx))
   case first=>
    go_region_law (refine dQ rfl (.tmp 18) (.tmp 22) rfl Lh rfl rfl L ?_
                   rintro l n⟨rfl,(g:Ze _)⟩
                   skip)
    all_goals go_wp2_with fail
    all_goals go_meet
    all_goals exact⟨rfl,g⟩
   obtain⟨rfl,g⟩:=hcut;have l:=Z<|H.trans<|g.mono Q;have ad:=(VK<|g.block T P).trans k4;have W:T<wc.heap.size:=by have:=g.size;omega
   generalize p.1.eC=mk at*;have n:Ze (∀r:Bool,z≠0->r=decide ((if mk=true then -z else z)<0)->o=r):=λr N hr=>by rw[<-S,F.2,q,VF N,hr]
   have M:Ze<|z=0->cq I J (t.map λp=>p.1.eC)=cq (I.drop<|i+1) (J.drop<|i+1) ((t.map λp=>p.1.eC).drop<|i+1):=λN=>by rw[F.2,q,VG N]
   obtain rfl|rfl|rfl:=j;all_goals cases mk
   all_goals go_wp2_with fail
   all_goals first
    |(go_ret;exact⟨Wd (λJ=>Zg.returned<|.bool J) (n _ (by decide)<|by decide).symm,l⟩)
    | (go_roundw
       exact⟨i+1,by omega,by go_num,l,M<|by first|rfl|trivial⟩
       case measure=>simp[Zk];omega)
  obtain rfl:i=t.length:=by omega
  have c:Ze<|o=false:=by unfold Ze;rw[<-S,F.2,Wt<|k▸VR _];simp[cq]
  have HB:=Z a;go_wp2;go_ret;exact⟨by rw[c];rfl,HB⟩
def NY(a b:Int)(c:Y9)(d e:Int)(g:Y9)(w:Za):Sem.run prog (binOp .neq 34 (.agg #[qI a,qI b,.string c])<|.agg #[qI d,qI e,.string g]) w=.ok (.bool<|!Nf a b c d e g) w:=by unfold Nf;by_cases j:a=d<;>by_cases k:b=e<;>by_cases i:c=g<;>simp[go_sem,j,k,i];intro h;apply i;rw[ByteArray.toList_eq,ByteArray.toList_eq]at h;exact ByteArray.ext<|Xt.1 h
def Uy(A:br w w.heap.size 3 vC I u)(B:br w w.heap.size 3 vC J z)(k:J.length=I.length)(Y:I.length<=1000):
 Zc prog 138 #[u,z] w λe L=>e=.returned (.bool<|cC I J)/\qB w L:=by
 obtain⟨P,Q,rfl⟩:=A.slice;obtain⟨U,V,rfl⟩:=B.slice;have C:=Z A;have HB:=Z B;have g:=Z k;have H:=NY;rw[k];generalize K:cC I J=o;have D:=Z K;go_in;go_wp2
 go_loopw [5] (λt wr=>∃i:Nat,i<=I.length/\t=qI i/\Ze (qB w wr/\o=cC (I.drop i) (J.drop i))) (λt _=>I.length-(Zk t).toNat)
 exact⟨0,Wi _,rfl,VM _ _,D.symm⟩
 case round=>
  obtain⟨i,hi,rfl,n⟩:=hrel;have b:=n.1;by_cases c:i<I.length
  .have d:i<J.length:=by rw[g];exact c
   obtain⟨W,_,r,E,M,N,O⟩:=(C.below b).val c;cases r;obtain⟨X,_,r,F,R,S,T⟩:=(HB.below b).val d;injection r with he1 he2 he3;subst he1;subst he3;have p:I.drop i=I.getD i aE::I.drop (i+1):=by rw[VJ c];simp[List.getD,VE c]
   have q:J.drop i=J.getD i aE::J.drop (i+1):=by rw[VJ d];simp[List.getD,VE d]
   generalize I.getD i aE=x at*;generalize J.getD i aE=y at*;have l:=yW x y;have a:Ze<|o=(ai.same x y&&cC (I.drop<|i+1) (J.drop<|i+1)):=by rw[Ze,n.2,p,q,cC]
   have G:(i:Int)<(I.length:Int):=by omega
   have j:=Z b.drew;cases hs:ai.same x y with
   |true=>
    rw[hs]at l a;go_wp2;go_region;all_goals go_wp2_with fail
    all_goals
     go_roundw;exact⟨i+1,by omega,by go_num,j,by have:=a.o;simpa using this⟩
     case measure=>simp[Zk];omega
   |false=>
    rw[hs]at l a;go_wp2;go_region;all_goals go_wp2_with fail
    all_goals
     go_ret;exact⟨by have h:=a.o;simp at h;rw[h];rfl,j⟩
  obtain rfl:i=I.length:=by omega
  have d:Ze<|o=true:=by unfold Ze;rw[n.2,Wa,Wt<|g▸VR _];rfl
  have a:=Z b;go_wp2;go_ret;exact⟨by rw[d];rfl,a⟩
def E7{e:Nat}(h:bZ F (I++J) R=.error e):ie O (bd F R I<|J::N)=.error e:=by rw[bd,h];rfl
def E9{v:ai}(h:bZ F (I++J) R=.ok v)(a:v=bh true):ie O (bd F R I<|J::N)=ie (O++[I++J]) (bd F R I N):=by
 rw[bd,h];simp only;cases bd F R I N with
 |error e=>rfl
 |ok z=>simp only[VG a,ie];simp
def E8{v:ai}(h:bZ F (I++J) R=.ok v)(a:¬v=bh true):ie O (bd F R I<|J::N)=ie O (bd F R I N):=by
 rw[bd,h];simp only;cases bd F R I N with
 |error e=>rfl
 |ok z=>simp only[VF a,ie]
def E_{left:Bool}{e:Nat}(h:bd F R I N=.error e):ie Q (aR F R left n N<|I::O)=.error e:=by rw[aR,h];rfl
def Ia{left:Bool}{z:List YW}(h:bd F R I N=.ok z):ie Q (aR F R left n N<|I::O)=ie (Q++(if (left&&z.isEmpty)=true then [I++List.replicate n aE]else z)) (aR F R left n N O):=by
 rw[aR,h];simp only;cases aR F R left n N O with
 |error e=>rfl
 |ok y=>simp only[ie];rw[Wh]
def DJ(w:Za)(ab:YY)(p:au):Prop:=p.1.length=ab.length/\w.ownsRow 0 247 6 p.2 (ab.zip p.1).length ((ab.zip p.1).flatMap tJ)
def nR(w:Za)(base:Nat)(ab:YY)(ps:YZ)(v:Zb):Prop:=w.ownsRow base 163 1 v ps.length (df ps)/\∀p∈ps,DJ w ab p
def DJ.c{p:au}(h:DJ w F p):O_ w F p.1 p.2:=⟨h.1,c7 (f:=tJ) (λ_=>rfl) h.2<|VR _⟩
def DJ.below{p:au}(h:DJ w F p)(a:qB w W):DJ W F p:=⟨h.1,aB a h.2⟩
def nR.below{base:Nat}{v:Zb}(h:nR w base F o v)(a:qB w W):nR W base F o v:=⟨aB a h.1,λp b=>(h.2 p b).below a⟩
def nR.push{v:Zb}{p:au}(h:nR w n F o v)(d:qB w W)(g:DJ W F p)(c:x.ownsRow n 163 1 u (o.length+1)<|df o++[p.2])(e:W.grownBy x v.ownBlock):nR x n F (o++[p]) u:=by
 have b:=aB d h.1;refine⟨by simpa[df]using c,λq a=>?_⟩;obtain a|a:=V1.1 a
 .have:=(h.2 q a).below d;exact⟨this.1,eU this.2 b e<|by decide⟩
 simp at a;subst a;exact⟨g.1,eU g.2 b e<|by decide⟩
def wX:(prog.info? 163).map (λi=>(i.zero,i.size,i.bytes))=some (some qN,1,24):=by kernel_rfl
def vU(w:Za)(ab:YY)(o:aV<|List YW)(e:Zg)(w':Za):Prop:=qB w w' /\
 ((∃er,o=.error er/\e=.returned (.tuple #[qN,qI (er:Nat)])) \/
  (∃qs v,o=.ok (qs.map (·.1))/\e=.returned (.tuple #[v,qI 0])/\nR w' w.heap.size ab qs v))
def FL{d:Y_}:(Zi 136 d).run prog w=.ok (.enter 136 d) w:=by
 have g:(f136.name == "runtime.NumGoroutine")=false:=by kernel_rfl
 have c: f136.body.isNone=false:=by kernel_rfl
 have a:¬f136.name = "runtime.NumGoroutine":=by simpa using g
 have b:¬f136.body=none:=by intro e;rw[e]at c;cases c
 simp[Zi,go_sem,func136,a,b]
def NG{c1 c2:YY}{p q:au}(b:DJ w c1 p)(g:DJ w c2 q)(l:c1.length<=500)(o:c2.length<=500)(k:0<c2.length):
 Zc prog 136 #[p.2,q.2] w λe h=>∃v,e=.returned v/\((∃a n c,v=.slice a n c)/\qB w h/\DJ h (c1++c2) (p.1++q.1,v)):=by
 have r:(c1.zip p.1).length=c1.length:=by rw[WS,b.1,XB]
 have i:(c2.zip q.1).length=c2.length:=by rw[WS,g.1,XB]
 refine(T0 b.2 g.2 (λe=>by rw[e]at i;simp at i;omega) (by omega)<|by omega).mono ?_;rintro e h⟨j,v,rfl,d⟩;rw[<-List.zip_append (by rw[b.1])]at d;exact⟨v,rfl,aF d,j,by simp[b.1,g.1],bU d<|Wi _⟩
def mi.co{v:Zb}(h:mi w F I v W):DJ W F (I,v):=⟨h.2.2.1,bU h.2.2.2<|Wi _⟩
structure UY(w0 wr:Za)(o:aV<|List YW)(cs:YY)(cc:aA)(mk:Bool)(nc:Nat)(rows:List YW)(ps:YZ)(i:Nat)(v:Zb)(acc:YZ):Prop where
 d:qB w0 wr
 l:nR wr w0.heap.size cs acc v
 go:o=ie (acc.map (·.1)) (aR cs cc mk nc rows<|(ps.drop i).map (·.1))
 len:acc.length<=i*25
def P0(r:ay){J:Nat}{D:YZ}{aP rb:Nat}{b:Nat}(h:jE w G b g K)(i:bO K r.name=some J)(hm:nR w aP F D B)(x:∀p∈D,aZ F p.1)(bQ:F.length<=100)(bW:D.length<=1000)(n:Mn w rb r.aW A)(k:bD (F++ax r.aY (ak K J)) (aK r.aW)=.ok M):
 Zc prog 85 #[qP b,B,.agg #[qT r.name,qT r.aY,qI r.type,A,.bool r.eC]] w (vU w (F++ax r.aY (ak K J))<|aR (F++ax r.aY (ak K J)) (aK r.aW) r.eC (ak K J).a.length (ak K J).rows<|D.map (·.1)):=by
 obtain⟨wa,rfl⟩:∃a,A=.pointer a:=by
  obtain⟨_,rfl⟩|⟨Y,_,h2⟩:=n
  .exact⟨_,rfl⟩
  obtain⟨a,rfl⟩:=h2.ptr Y.1;exact⟨_,rfl⟩
 obtain⟨ra,rc,rfl,_⟩:=cz hm.1;have d:qB w<|w.alloc<|.cells #[qT r.name,qT r.aY,qI r.type,.pointer wa,.bool r.eC] 157:=qA;have z:=aM w<|.cells #[qT r.name,qT r.aY,qI r.type,.pointer wa,.bool r.eC] 157;have L:=Z<|Db r.name<|h.below d;obtain⟨l,(HL:Ze _),(bl:Ze _),j⟩:=(h.below d).d<|cx i;rw[i,j]at L;have HX:=Z<|h.below d;have HM:=Z<|hm.below d;have HC:=Z<|n.below d;have bj:=Z x;have bm:=Z k;have av:=Z d;have c:=h.ok.2 _<|dS<|cx i;generalize T:w.alloc (.cells #[qT r.name,qT r.aY,qI r.type,.pointer wa,.bool r.eC] 157)=y at*;clear h i hm x n k j d;have h:Ze (∀o e E,qB y E->((∃er,o=Except.error er/\e=Zg.returned (.tuple #[qN,qI (er:Nat)]))\/(∃qs v,o=.ok (qs.map (·.1))/\e=.returned (.tuple #[v,qI 0])/\nR E y.heap.size (F++ax r.aY (ak K J)) qs v))->vU w (F++ax r.aY (ak K J)) o e E):=λo e E n P=>by have hz:=av.size;refine⟨av.trans<|n.mono hz,P.imp id ?_⟩;rintro⟨qs,v,h1,h2,Y⟩;exact⟨qs,v,h1,h2,bU Y.1 hz,Y.2⟩
 have i:=HX.c J l _ HL bl;obtain⟨cv,j,-⟩:=i.q;have bp:=lB j;have bt:=lB z;obtain⟨za,zc,(aH:Ze _),bX⟩:=cz i.rows;obtain⟨U,V,X⟩:=Ex i;have bN:=Z<|xH (src:=r.aY) c;have bK:=c.d;have bn:=c.pos;have bI:=c.b;have HP:Ze (∀(k:Nat) (q:YW),(ak K J).rows[k]?=some q->∃u,l.us[k]?=some u/\Ak y G q u/\aZ (ax r.aY<|ak K J) q):=λk q hq=>by
  have hk:k<l.us.length:=by have:=i.rows.1;have:=bw hq;omega
  exact⟨_,VE hk,i.each k q _ hq<|VE hk,(c.rows q<|VY hq).src⟩
 have aC:Ze (∀W,qB y W->∀row u,((u=qN/\row=List.replicate (ak K J).a.length aE)\/(row.length=(ak K J).a.length/\br y y.heap.size 3 vC row u))->_):=λW hW row u hr=>Fv i HX.lt c r.aY hr hW;have ai:Ze<|(ax r.aY<|ak K J).length=(ak K J).a.length:=cH _ _;have ah:=Z i.rows;have bh:=Z j;have az:=Z z;generalize S:ax r.aY (ak K J)=d at*;generalize R:(ak K J).rows=rows at*;generalize N:(ak K J).a.length=Q at*;generalize C:aK r.aW=H at*;generalize r.eC=mk at*;have aA:=Z C;generalize O:aR (F++d) H mk Q rows (D.map (·.1))=o at*;have HO:=Z O;have bi:Ze (∀er E,o=.error er->qB y E->vU w (F++d) o (.returned<|.tuple #[qN,qI (er:Nat)]) E):=λer E he n=>h _ _ _ n<|.inl ⟨er,he,rfl⟩;have aL:Ze (∀qs v E,o=.ok (qs.map (·.1))->qB y E->nR E y.heap.size (F++d) qs v->vU w (F++d) o (.returned<|.tuple #[v,qI 0]) E):=λqs v E he n hm=>h _ _ _ n<|.inr ⟨qs,v,he,rfl,hm⟩;generalize vU w (F++d) o=bG at*;obtain⟨i0,aW,a1,a2,a3⟩:=V5 wX;have I:Ze<|UY y y o (F++d) H mk Q rows D 0 qN []:=⟨VM _ _,⟨VP _ _ _ _,λp P=>(by cases P)⟩,by rw[WG,O];cases o<;>rfl,Wi _⟩;have aV:d.length<=500:=by rw[ai];omega
 have aU:0<d.length:=by rw[ai];omega
 clear c i j z U V X S R N C O h;have c:=bC az 0;simp at c;go_in;go_wp2_with fail;apply qR L;intro w1 bs;obtain rfl:=bs.symm;clear L T c;generalize w.heap.size=bx at*;go_wp2
 go_loopw [9,10] (λs9 aq wr=>∃(i:Nat) (C:YZ),i<=D.length/\aq=qI i/\Ze (UY y wr o (F++d) H mk Q rows D i s9 C)) (λ_ aq _=>D.length-(Zk aq).toNat)
 exact⟨0,[],Wi _,rfl,I⟩
 case round=>
  generalize wr=wo at*;obtain⟨i,C,hi,rfl,HI⟩:=hrel;clear I;obtain⟨O,T,ab,L⟩:=HI.o;obtain⟨va,vc,rfl,_⟩:=cz T.1;have b1:=O.size;by_cases an:i<D.length
  .have N:D[i]?=some D[i]:=VE an;have aD:Ze<|D.drop i=D[i]::D.drop (i+1):=VJ an;have c:=VQ an;generalize D[i]=p at*;obtain⟨gp,_,he,_,bo,ep⟩:=dA HM.1 (j:=i) (u:=p.2) (by rw[df,VO,N];rfl);cases he;have z:=HM.2 p c;have x:=bj.o p c;obtain⟨pa,pn,pc,aY⟩:=aF z.2;obtain⟨h,pv⟩:=p;simp only at aY ep;subst aY;have ac:=Z z;have aG:=Z x;have bS:(i:Int)<(D.length:Int):=by omega
   have I:Ze<|qB y wo/\nR wo y.heap.size (F++d) C (.slice va C.length vc)/\C=C++[]/\bd (F++d) H h rows=ie [] (bd (F++d) H h<|rows.drop 0)/\([]:YZ).length<=0:=⟨O,T,by rw[WQ],by rw[WG];cases bd (F++d) H h rows<;>rfl,VR _⟩;have bM:=Z O;have aO:=Z ab;have bP:C.length<=25000:=by omega
   have aN:=Z L;clear O T ab z x c N HI L;go_wp2
   go_loopw [9,11,12] (λs9 bz ar wr=>∃(k:Nat) (z L:YZ),k<=rows.length/\ar=qI k/\bz=.bool (!z.isEmpty)/\Ze (qB y wr/\nR wr y.heap.size (F++d) L s9/\L=C++z/\bd (F++d) H h rows=ie (z.map (·.1)) (bd (F++d) H h<|rows.drop k)/\z.length<=k)) (λ_ _ ar _=>rows.length-(Zk ar).toNat)
   exact⟨0,[],C,Wi _,rfl,rfl,I⟩;obtain⟨k,z,L,hk,rfl,rfl,Y⟩:=hrel;clear I;obtain⟨S,I,x,V,U⟩:=Y.o;obtain⟨xa,xc,rfl,_⟩:=cz I.1;have n:=S;have hz:=n.size;have c:=bB n bt az;have x1:=bC c 1;have x3:=bC c 3;have x4:=bC c 4;simp at x1 x3 x4;have a0:=lB c;have j:=bB n bp bh;have y2:=bC j 2;simp at y2;rw[aH]at y2;have bJ:=lB j;have aQ:=(VK<|n.block gp bo).trans ep;have ad:gp<wr.heap.size:=by omega
   have HB:=Z n;have N:=Z I;have aa:=Z V;have b2:z.length<=25:=by omega
   have R:=Z x;have bH:L.length<=26000:=by rw[x,VH];omega
   have al:=Z U;generalize X:(!z.isEmpty)=zb at*;have aj:=Z X;clear S I V c j n Y x U X;by_cases aX:k<rows.length
   ·have I:rows[k]?=some rows[k]:=VE aX;have af:Ze<|rows.drop k=rows[k]::rows.drop (k+1):=VJ aX;generalize rows[k]=q at*;obtain⟨u,U,x,j⟩:=HP.o k q I;obtain⟨gr,_,he,_,bR,er⟩:=dA (aB HB ah) U;rw[aH]at he;cases he;obtain⟨ua,un,uc,rfl⟩:=aF x.1;have a8:=Z<|aC wr.drew HB.drew q (.slice ua un uc)<|.inr ⟨j.1.trans ai,c7 (f:=vC) (λ_=>rfl) x.1<|VR _⟩;have ba:Ze (∀W W' v,qB y W->mi W d q v W'->Zc prog 136 #[.slice pa pn pc,v] W' λe E=>∃v',e=.returned v'/\((∃a n c,v'=.slice a n c)/\qB W E/\DJ E (F++d) (h++q,v'))):=λW W' v hW P=>by
     have S:qB y W':=hW.trans<|P.2.1.mono hW.size;apply(NG (p:=(h,.slice pa pn pc)) (q:=(q,v)) (ac.below S) P.co (by omega) aV aU).mono;rintro e E⟨v',rfl,V,X,Y⟩;exact⟨v',rfl,V,P.2.1.trans<|X.mono P.2.1.size,Y⟩
    have a5:Ze<|qB y wr.drew:=HB.drew;have bT:(k:Int)<(rows.length:Int):=by omega
    have bk:Ze<|aZ (F++d)<|h++q:=aG.append j;clear I U x j;go_upto_region 10 with fail
    go_cut [13]from 27 to 66 (λbA wx=>∃a n c,bA=.slice a n c/\Ze (qB wr wx/\DJ wx (F++d) (h++q,.slice a n c)))
    case first=>
     go_region_law (first
      | (refine eN rfl (.tmp 40) (.tmp 42) (.tmp 49) rfl ki rfl rfl rfl a8 ?_
         rintro v3 U I;have x:=Z I;obtain⟨⟨Y,m3,c3,rfl⟩,-⟩:=I;have j:qB wr U:=(VM _ _).drew.trans x.2.1;have X:gp<U.heap.size:=(by have:=j.size;omega);have V:=(VK<|j.block gp ad).trans aQ
         clear j)
      | (refine dQ rfl (.tmp 39) (.tmp 50) rfl FL rfl rfl (ba _ _ _ a5 x) ?_
         rintro v4 w4⟨⟨a4,m4,c4,rfl⟩,S⟩;have j:=Z S
         clear S))
     all_goals go_wp2_with fail
     all_goals go_meet
     all_goals exact⟨_,_,_,rfl,(VM _ _).drew.trans j.1,j.2⟩
    obtain⟨V,Y,X,rfl,ag⟩:=hcut;have j:=ag.1;have bu:=j.size;obtain⟨tb,te,(aJ:Ze _)⟩:=oR<|bZ (F++d) (h++q) H;have x:=Z<|D9 (t:=r.aW) bk (by rw[VH];omega) (aA▸bm) (HC.below<|HB.trans<|j.mono hz) ag.2.c;rw[aA,aJ]at x;have bF:=(VK<|j.block bx a0).trans x3;have U:bx<wc.heap.size:=by omega
    have a4:=Z j;clear j;go_wp2_with fail;apply qR x;intro w5 S;have j:=a4.trans<|S.mono bu;have b0:=j.size;have ae:=Z j;have I:=Z<|HB.trans<|j.mono hz;have bg:=Z<|ag.2.below S;clear S j x bF U;obtain⟨j,rfl⟩|⟨rfl,x,j,hx⟩:=tB aJ.o
    .have U:((te:Int) != 0)=true:=by have:=jc j;simp;omega
     have S:=Z (bi te w5 (by
      rw[aO,aD];refine E_ ?_;rw[aa,af]
      exact E7 j) I)
     clear j;go_wp2;exact S
    cases tb with
    |false=>
     have S:Ze<|qB y w5/\nR w5 y.heap.size (F++d) L (.slice xa L.length xc)/\L=C++z/\bd (F++d) H h rows=ie (z.map (·.1)) (bd (F++d) H h<|rows.drop<|k+1)/\z.length<=k+1:=⟨I,N.below ae,R,by rw[aa,af];exact E8 j λe=>by simpa using hx.2 e,by have:=al.o;omega⟩;clear j hx;go_wp2;go_roundw;exact⟨k+1,z,L,by omega,by go_num,by rw[aj],S⟩;simp[Zk];omega
    |true=>
     have S:=aB ae N.1;have bc:Ze<|bd (F++d) H h rows=ie (z.map (·.1)++[h++q]) (bd (F++d) H h<|rows.drop<|k+1):=by rw[Ze,aa,af];exact E9 j<|hx.1 rfl
     have b3:y.heap.size<=w5.heap.size:=by omega
     clear j hx;go_wp2_with (at_builtin;refine VS _ rfl (.tmp 63) (.tmp 65) 169 rfl y.heap.size 163 i0 _ 1 24 underlying169 aW a1 a2 a3 rfl (by decide) _ _ _ rfl (S.alloc _) ⟨w5.heap.size,0,none⟩ 1 1 [.slice V Y X] rfl rfl ?c1 ?c2 ?c3 ?c4 ?c5 ?_);try (case c1=>exact cW w5 [.slice V Y X] 163)
     try (case c2=>first|rfl|(intro x hx;simp at hx;subst hx;rfl))
     case c3=>unfold Zj;omega
     case c4=>omega
     try (case c5=>first|omega|(simp;omega))
     intro v' w6 U am ao;have bf:Ze<|qB y w6/\nR w6 y.heap.size (F++d) (L++[(h++q,.slice V Y X)]) v'/\L++[(h++q,.slice V Y X)]=C++(z++[(h++q,.slice V Y X)])/\bd (F++d) H h rows=ie ((z++[(h++q,Zb.slice V Y X)]).map (·.1)) (bd (F++d) H h<|rows.drop<|k+1)/\(z++[(h++q,Zb.slice V Y X)]).length<=k+1:=by have aS:qB w5<|w5.alloc<|.cells #[.slice V Y X] 163:=qA;refine⟨a_ (I.alloc I.size _) am (λj hj=>(S.lt j hj).1) (by simp;omega),(N.below ae).push aS (bg.below aS) U am,by rw[R,Wh],by rw[Wc];exact bc,by have:=al.o;simp;omega⟩
     clear S U am ao;go_wp2;go_roundw;exact⟨k+1,z++[(h++q,.slice V Y X)],L++[(h++q,.slice V Y X)],by omega,by go_num,by simp,bf⟩;simp[Zk];omega
   obtain rfl:k=rows.length:=by omega
   have a7:Ze<|bd (F++d) H h rows=.ok (z.map (·.1)):=by rw[Ze,aa,Wa];simp[bd,ie]
   have X:Ze<|o=ie (C.map (·.1)++(if (mk&&(z.map (·.1)).isEmpty)=true then [h++List.replicate Q aE]else z.map (·.1))) (aR (F++d) H mk Q rows<|(D.drop<|i+1).map (·.1)):=by unfold Ze;rw[aO,aD];exact Ia a7
   have bL:=al.o;by_cases I:(mk&&(z.map (·.1)).isEmpty)=true
   .rw[VG I]at X;have bv:z=[]:=by simp at I;exact I.2
    have bq:mk=true:=by simp at I;exact I.1
    subst bv;subst bq;obtain rfl:zb=false:=aj.symm;have au:Ze<|L=C:=by rw[Ze,R,WQ]
    have a9:=Z<|aC wr.drew HB.drew _ _<|.inl ⟨rfl,rfl⟩;have bb:Ze (∀W W' v,qB y W->mi W d (List.replicate Q aE) v W'->Zc prog 136 #[.slice pa pn pc,v] W' λe E=>∃v',e=.returned v'/\((∃a n c,v'=.slice a n c)/\qB W E/\DJ E (F++d) (h++List.replicate Q aE,v'))):=λW W' v hW P=>by have j:qB y W':=hW.trans<|P.2.1.mono hW.size;apply(NG (p:=(h,.slice pa pn pc)) (q:=(List.replicate Q aE,v)) (ac.below j) P.co (by omega) aV aU).mono;rintro e E⟨v',rfl,x,S,U⟩;exact⟨v',rfl,x,P.2.1.trans<|S.mono P.2.1.size,U⟩
    have a6:Ze<|qB y wr.drew:=HB.drew;clear I;go_upto_region 18 with fail
    go_cut [16]from 21 to 85 (λbE wx=>∃a n c,bE=.slice a n c/\Ze (qB wr wx/\DJ wx (F++d) (h++List.replicate Q aE,.slice a n c)))
    case first=>
     go_region_law (first
      | (refine eN rfl (.tmp 77) (.tmp 79) (.const qN) rfl ki rfl rfl rfl a9 ?_
         rintro v3 V S;have x:=Z S;obtain⟨⟨b5,m3,c3,rfl⟩,-⟩:=S;have j:qB wr V:=(VM _ _).drew.trans x.2.1;have b4:gp<V.heap.size:=(by have:=j.size;omega);have Y:=(VK<|j.block gp ad).trans aQ
         clear j)
      | (refine dQ rfl (.tmp 76) (.tmp 80) rfl FL rfl rfl (bb _ _ _ a6 x) ?_
         rintro v4 w4⟨⟨a4,m4,c4,rfl⟩,U⟩;have j:=Z U
         clear U))
     all_goals go_wp2_with fail
     all_goals go_meet
     all_goals exact⟨_,_,_,rfl,(VM _ _).drew.trans j.1,j.2⟩
    obtain⟨la,ln,lc,rfl,S⟩:=hcut;have U:=aB S.1 N.1;have bY:=S.1.size;have aw:=Z<|HB.trans<|S.1.mono hz;have bV:=aN.o;go_wp2_with (at_builtin;refine VS _ rfl (.tmp 82) (.tmp 84) 169 rfl y.heap.size 163 i0 _ 1 24 underlying169 aW a1 a2 a3 rfl (by decide) _ _ _ rfl (U.alloc _) ⟨wc.heap.size,0,none⟩ 1 1 [.slice la ln lc] rfl rfl ?d1 ?d2 ?d3 ?d4 ?d5 ?_);try (case d1=>exact cW wc [.slice la ln lc] 163)
    try (case d2=>first|rfl|(intro x hx;simp at hx;subst hx;rfl))
    case d3=>unfold Zj;omega
    case d4=>omega
    try (case d5=>first|omega|(simp;omega))
    intro v' w6 V Y ap;have be:Ze<|UY y w6 o (F++d) H true Q rows D (i+1) v'<|L++[(h++List.replicate Q aE,.slice la ln lc)]:=by have aT:qB wc<|wc.alloc<|.cells #[.slice la ln lc] 163:=qA;exact⟨a_ (aw.alloc aw.size _) Y (λj hj=>(U.lt j hj).1) (by simp;omega),(N.below S.1).push aT (S.2.below aT) V Y,by rw[au,Wc];exact X,by rw[au];simp;omega⟩
    clear U V Y ap;go_wp2;go_roundw;exact⟨i+1,_,by omega,by go_num,be⟩;simp[Zk];omega
   rw[VF I]at X;have c:Ze<|UY y wr o (F++d) H mk Q rows D (i+1) (.slice xa L.length xc) L:=⟨HB,N,by rw[R,Wc];exact X,by have:=aN.o;rw[R,VH];omega⟩;have j:zb=true\/(zb=false/\mk=false):=by
    cases zb with
    |true=>exact .inl rfl
    |false=>
     refine .inr ⟨rfl,?_⟩;have:=aj.o;cases mk with
     |false=>rfl
     |true=>exact absurd (by simp at this ⊢;exact this) I
   clear I;obtain rfl|⟨rfl,rfl⟩:=j;all_goals go_wp2_with fail
   all_goals
    go_roundw;exact⟨i+1,_,by omega,by go_num,c⟩
    case measure=>simp[Zk];omega
  obtain rfl:i=D.length:=by omega
  have c:=Z<|aL C _ wo (by rw[ab,Wa];simp[aR,ie]) O T;clear O T ab HI;go_wp2;exact c
def Ey(a b:ai):ai.same a b=ai.same b a:=by
 cases h:ai.same a b with
 |true=>have e:=(ai.q a b).1 h;subst e;exact h.symm
 |false=>
  cases h2:ai.same b a with
  |false=>rfl
  |true=>have e:=(ai.q b a).1 h2;subst e;rw[h]at h2;cases h2
def nt:∀(a b:YW),cC a b=cC b a
 |[],[]=>rfl
 |[],_::_=>rfl
 |_::_,[]=>rfl
 |x::a,y::b=>by rw[cC,cC,Ey,nt a b]
def kY(dis:Bool)(met rs:List YW):List YW:=if dis=true then fq met rs else rs
def Hn(h:(b&&N.any (λm=>cC m I))=false):kY b N (I::O)=I::kY b (N++[I]) O:=by
 cases b with
 |false=>rfl
 |true=>
  simp only[X5]at h;unfold kY;rw[VG rfl,VG rfl,fq,VF];have e:(λm=>cC m I)=cC I:=funext λm=>nt m I;rw[e]at h;rw[h];simp
def JH(h:(b&&N.any (λm=>cC m I))=true):kY b N (I::O)=kY b N O:=by
 cases b with
 |false=>simp at h
 |true=>
  simp only[X5]at h;unfold kY;rw[VG rfl,VG rfl,fq,VG];have e:(λm=>cC m I)=cC I:=funext λm=>nt m I;rw[e]at h;exact h
def wO(all:Bool)(ab:YY)(ts:Y6)(r:YW):aV<|YW:=if all=true then .ok r else bH ab r ts
def fT(all:Bool)(ab:YY)(ts:Y6):List YW->aV (List YW)
 |[]=>.ok []
 |r::rs=>match wO all ab ts r with
  |.error e=>.error e
  |.ok v=>match fT all ab ts rs with
   |.error e=>.error e
   |.ok vs=>.ok<|v::vs
def mX(dis:Bool)(met acc:List YW):aV (List YW)->aV (List YW)
 |.error e=>.error e
 |.ok rs=>.ok<|acc++kY dis met rs
def LK{a:Y6}{e:Nat}(h:wO b F a I=.error e):mX L O Q (fT b F a<|I::N)=.error e:=by rw[fT,h];rfl
def Ob{a:Y6}{v:YW}(h:wO b F a I=.ok v)(c:(L&&O.any (λm=>cC m v))=true):mX L O Q (fT b F a<|I::N)=mX L O Q (fT b F a N):=by
 rw[fT,h];simp only;cases fT b F a N with
 |error e=>rfl
 |ok vs=>simp only[mX];rw[JH c]
def LL{a:Y6}{v:YW}(h:wO b F a I=.ok v)(c:(L&&O.any (λm=>cC m v))=false):mX L O Q (fT b F a<|I::N)=mX L (O++[v]) (Q++[v]) (fT b F a N):=by
 rw[fT,h];simp only;cases fT b F a N with
 |error e=>rfl
 |ok vs=>simp only[mX];rw[Hn c,Wh];rfl
def lF(w:Za)(base:Nat)(qs:YZ)(v:Zb):Prop:=w.ownsRow base 32 1 v qs.length (df qs)/\∀q∈qs,w.ownsRow base 34 3 q.2 q.1.length<|c_ q.1
def lF.below{base:Nat}{v:Zb}(h:lF w base o v)(a:qB w W):lF W base o v:=⟨aB a h.1,λq b=>aB a<|h.2 q b⟩
def lF.push{d:Za}{v:Zb}{q:au}(h:lF w n o v)(e:qB w W)(i:W.ownsRow n 34 3 q.2 q.1.length<|c_ q.1)(c:d.ownsRow n 32 1 u (o.length+1)<|df o++[q.2])(g:W.grownBy d v.ownBlock):lF d n (o++[q]) u:=by
 have b:=aB e h.1;refine⟨by simpa[df]using c,λx a=>?_⟩;obtain a|a:=V1.1 a
 .exact eU (aB e<|h.2 x a) b g<|by decide
 simp at a;subst a;exact eU i b g<|by decide
def mN(w:Za)(o:aV<|List YW)(e:Zg)(w':Za):Prop:=qB w w' /\
 ((∃er,o=.error er/\e=.returned (.tuple #[qN,qI (er:Nat)])) \/
  (∃qs v,o=.ok (qs.map (·.1))/\e=.returned (.tuple #[v,qI 0])/\lF w' w.heap.size qs v))
structure Td(w wr:Za)(o:aV<|List YW)(all dis:Bool)(ab:YY)(ts:Y6)(ps:YZ)(len i:Nat)(v:Zb)(qs:YZ):Prop where
 d:qB w wr
 new:lF wr w.heap.size qs v
 go:o=mX dis (qs.map (·.1)) (qs.map (·.1)) (fT all ab ts<|(ps.drop i).map (·.1))
 each:∀q∈qs,q.1.length=len
 len:qs.length<=i
def Td.push{wr:Za}{o:aV (List YW)}{l:Y6}{v nv:Zb}(h:Td w W o b L F l p n i v e)(k:qB w wr)(r:lF wr w.heap.size e v)(A:wr.ownsRow W.heap.size 34 3 nv I.length<|c_ I)(B:w.heap.size<=W.heap.size)(z:I.length=n)
 (t:o=mX L (e.map (·.1)++[I]) (e.map (·.1)++[I]) (fT b F l<|(p.drop<|i+1).map (·.1))) {O:Obj} (g:x.ownsRow w.heap.size 32 1 u (e.length+1)<|df e++[nv]) (d:(wr.alloc O).grownBy x v.ownBlock):Td w x o b L F l p n (i+1) u<|e++[(I,nv)]:=by
 have c:qB wr<|wr.alloc O:=qA;have C:=k.size;refine⟨a_ (k.alloc k.size _) d (λj y=>(r.1.lt j y).1) (by simp;omega),r.push c (bU (aB c A) B) g d,by rw[Wc];exact t,λq a=>?_,by have:=h.len;simp;omega⟩;obtain a|a:=V1.1 a
 .exact h.each q a
 .simp at a;subst a;exact z
def Iu{d:Y_}:(Zi 80 d).run prog w=.ok (.enter 80 d) w:=by
 have g:(f80.name == "runtime.NumGoroutine")=false:=by kernel_rfl
 have c: f80.body.isNone=false:=by kernel_rfl
 have a:¬f80.name = "runtime.NumGoroutine":=by simpa using g
 have b:¬f80.body=none:=by intro e;rw[e]at c;cases c
 simp[Zi,go_sem,func80,a,b]
def UM(d b:Bool){B:YZ}{rb ao:Nat}{u0 u1 u3 u4 u5 u8 u9:Zb}(hn:w.heap[n]?=some (.cells #[u0,u1,A,u3,u4,u5,.bool b,.bool d,u8,u9] 111))(hi:rH w rb r A)
 (R:d=false->∀p∈r,cY p.1.aW/\dX p.1.aW/\∃ty,bD F p.1.aW=.ok ty)(aV:r.length<=1000)(hm:nR w ao F B z)(S:∀p∈B,aZ F p.1)(bi:F.length<=100)(br:B.length<=1000000):
 Zc prog 87 #[.pointer<|some ⟨n,0,none⟩,z] w (mN w<|mX b [] []<|fT d F (r.map λp=>p.1.aW)<|B.map (·.1)):=by
 obtain⟨ia,ic,rfl⟩:=hi.1.slice;obtain⟨ra,rc,rfl,_⟩:=cz hm.1;obtain⟨i0,aU,a6,a7,a8⟩:=V5 iN;obtain⟨q0,aY,a0,a1,a2⟩:=V5 mK;have HN:=Z hn;have aj:=Z hi;have ak:=Z R;have HM:=Z hm;have aK:=Z S;obtain⟨I,(Q:Ze _)⟩:∃I,r.map (λp=>p.1.aW)=I:=⟨_,rfl⟩;rw[Q];generalize ho:mX b [] [] (fT d F I<|B.map (·.1))=o;obtain⟨len,(J:Ze _)⟩:∃len,len=if d=true then F.length else r.length:=⟨_,rfl⟩;have Y:len<=1000:=by rw[J];split<;>omega
 have aH:Ze (∀C H,o=.error C->Zd w.heap.size w H->mN w o (.returned<|.tuple #[.slice none 0 0,.int .i64 (C:Nat)]) H):=λC H P hb=>⟨hb,.inl ⟨C,P,rfl⟩⟩;have an:Ze (∀qs v H,o=.ok (qs.map (·.1))->Zd w.heap.size w H->lF H w.heap.size qs v->mN w o (.returned<|.tuple #[v,.int .i64 0]) H):=λqs v H P hb hm=>⟨hb,.inr ⟨qs,v,P,rfl,hm⟩⟩;generalize mN w o=bd at*;have aE:Ze<|Td w w o d b F I B len 0 (.slice none 0 0) []:=⟨VM _ _,⟨VP _ _ _ _,λp hp=>(by cases hp)⟩,by rw[WG];exact ho.symm,λq hq=>(by cases hq),VR _⟩;go_in;go_wp2_with fail
 go_loopw [6,7] (λs6 s7 wr=>∃(i:Nat) (qs:YZ),i<=B.length/\s7=.int .i64 i/\Ze (Td w wr o d b F I B len i s6 qs)) (λ_ s7 _=>B.length-(Zk s7).toNat)
 case atStart=>exact⟨0,[],Wi _,rfl,aE⟩
 case round=>
  generalize wr=l at*;obtain⟨i,qs,bm,rfl,G⟩:=hrel;have L:=G.o.d;have az:=L.size;obtain⟨va,vc,a3,_⟩:=cz G.o.new.1;subst a3;have N:=bB L (lB hn) HN.o;have m2:=bC N 2;have m6:=bC N 6;have m7:=bC N 7;simp at m2 m6 m7;have aG:=Z N;have bs:=G.o.len;by_cases aa:i<B.length
  .have aX:B[i]?=some B[i]:=VE aa;have V:Ze<|B.drop i=B[i]::B.drop (i+1):=VJ aa;have E:=VQ aa;generalize B[i]=p at*;obtain⟨gp,_,P,_,aT,ep⟩:=dA (aB L HM.o.1) (j:=i) (u:=p.2) (by rw[df,VO,aX];rfl);cases P;have ap:=(HM.o.2 p E).below L;have S:=aK.o p E;obtain⟨D,pv⟩:=p;obtain⟨pa,pc,ab,_⟩:=cz ap.2;simp only at ab ep;have ba:(F.zip D).length=F.length:=by rw[WS,S.1,XB]
   rw[ba]at ab;subst ab;have ah:=Z ap;have y:=Z S;have bn:((i:Nat):Int)<((B.length:Nat):Int):=by omega
   have af:=Z L
   go_upto_if 22 with fail
   go_cut [8,9]from 13 to 85 (λs8 s9 wx=>∃a m c C,s8=.slice a m c/\s9=.int .i64 ((C:Nat):Int)/\Ze (Zd l.heap.size l wx/\((wO d F I D=.error C/\C≠0)\/(C=0/\∃g,wO d F I D=.ok g/\g.length=len/\wx.ownsRow l.heap.size 34 3 (.slice a m c) g.length (c_ g)))))
   case first=>
    cases d with
    |true=>
     go_wp2_with fail
     go_loopw [8,10] (λs8 O wr=>∃k:Nat,k<=F.length/\O=.int .i64 k/\Ze (Zd l.heap.size l wr/\wr.ownsRow l.heap.size 34 3 s8 k (c_<|D.take k))) (λ_ O _=>F.length-(Zk O).toNat)
     case atStart=>exact⟨0,Wi _,rfl,VM _ _,VP _ _ _ _⟩
     obtain⟨k,hk,rfl,HK⟩:=hrel;obtain⟨t,h⟩:=HK.o;obtain⟨xa,xn,xc,rfl⟩:=aF h;have bt:=t.size;have bh:=(VK<|t.block gp aT).trans ep;have be:gp<wr.heap.size:=by omega
     by_cases U:k<F.length
     .have K:k<D.length:=by rw[y.o.1];exact U
      have M:(F.zip D)[k]?=some (F[k],D[k]):=by rw[Xk];exact⟨VE U,VE K⟩
      have X:Ze<|D.take (k+1)=D.take k++[D[k]]:=by unfold Ze;rw[V9,VE K];rfl
      obtain⟨_,_,P,h2⟩:=(ah.o.below t).c.2;simp only at P;injection P with he1 he2 he3;obtain⟨gc,j,bk,W⟩:=h2 (by intro e;rw[e]at M;simp at M);rw[j]at he1;subst he1;have c3:=W k _ M 3 _ rfl;have c4:=W k _ M 4 _ rfl;have c5:=W k _ M 5 _ rfl;generalize D[k]=x at*;simp only at c3 c4 c5;have bo:((k:Nat):Int)<((F.length:Nat):Int):=by omega
      have T:=Z t;clear t M h2 W j he2 he3 HK;go_wp2_with (at_builtin;refine VS _ rfl (.tmp 32) (.tmp 41) 32 rfl l.heap.size 34 q0 _ 3 32 underlying32 aY a0 a1 a2 rfl (by decide) _ _ _ rfl (h.alloc _) ⟨wr.heap.size,0,none⟩ 1 1 (vC x) rfl rfl ?c1 ?c2 ?c3 ?c4 ?c5 ?_)
      case c1=>exact cW wr (vC x) 34
      case c2=>exact EP x
      case c3=>unfold Zj;omega
      case c4=>omega
      case c5=>simp;omega
      intro v' w4 M aR bg;have W:Ze<|Zd l.heap.size l w4/\w4.ownsRow l.heap.size 34 3 v' (k+1) (c_<|D.take<|k+1):=⟨a_ (T.o.alloc T.o.size _) aR (λj hj=>(h.lt j hj).1) (by simp;omega),by rw[X.o,pS,xE];exact M⟩;go_wp2_with fail;go_roundw
      case rel=>exact⟨k+1,by omega,by go_num,W⟩
      simp[Zk];omega
     obtain rfl:k=F.length:=by omega
     have x:Ze<|Zd l.heap.size l wr/\wr.ownsRow l.heap.size 34 3 (.slice xa xn xc) D.length (c_ D):=⟨t,by rw[VX (by rw[y.o.1];exact VR _)]at h;rw[y.o.1];exact h⟩;have j:Ze<|D.length=len:=by unfold Ze;rw[J.o];simpa using y.o.1
     go_wp2_with fail;go_meet;exact⟨_,_,_,0,rfl,rfl,x.o.1,.inr ⟨rfl,D,rfl,j.o,x.o.2⟩⟩
    |false=>
     have K:Ze (Zc prog 80 #[.slice ia r.length ic,.slice pa F.length pc] l.drew λe H=>∃v,e=.returned v/\∃a m c C,v=.tuple #[.slice a m c,.int .i64 ((C:Nat):Int)]/\Zd l.heap.size l H/\((wO false F I D=.error C/\C≠0)\/(C=0/\∃g,wO false F I D=.ok g/\g.length=len/\H.ownsRow l.heap.size 34 3 (.slice a m c) g.length (c_ g)))):=by
      have k:=af.o.drew;refine(Ac F D _ (aj.o.below k).q (λp hp=>?_) ⟨_,_,_,rfl⟩<|by simpa using aV).mono ?_
      .obtain⟨q,hq,rfl⟩:=VV.1 hp;obtain⟨R,h,ty,O⟩:=ak.o (by first|rfl|trivial) q hq;have j:=(aj.o.2 q hq).below k;obtain⟨T,t⟩:=j.ptr R.1;exact⟨ER y.o (by omega) R h O j<|ah.o.c.below (VM _ l).drew,⟨_,t⟩⟩
      have O:(r.map λp=>(p.1.aW,p.2)).map (·.1)=I:=by rw[<-Q.o,Ww];rfl
      rw[O];rintro e H⟨hb,hp⟩;have j:Zd l.heap.size l H:=(VM _ _).drew.trans hb;rcases hp with⟨C,h,rfl⟩|⟨g,v,h,rfl,W⟩
      .exact⟨_,rfl,none,0,0,C,rfl,j,.inl ⟨h,by have:=kF h;omega⟩⟩
      obtain⟨a,m,c,rfl⟩:=aF W
      have hl:=(lz y.o (λt T=>by
       rw[<-Q.o]at T;obtain⟨q,hq,rfl⟩:=VV.1 T
       exact(ak.o (by first|rfl|trivial) q hq).1) h).1
      exact⟨_,rfl,a,m,c,0,rfl,j,.inr ⟨rfl,g,h,by rw[hl,J.o,<-Q.o];simp,W⟩⟩
     go_upto_region 12 with fail
     go_region_law (refine dQ rfl (.tmp 47) (.tmp 51) rfl Iu (by simp[Act.eval,Act.put]) (by simp[Act.eval,Act.put]) (U K) ?_
                    rintro v4 w4⟨a4,m4,c4,X,rfl,x⟩;have M:=Z x
                    clear x)
     all_goals go_wp2_with fail
     all_goals go_meet
     all_goals exact⟨_,_,_,_,rfl,rfl,M.o⟩
   obtain⟨a,m,c,C,rfl,rfl,aC⟩:=hcut;obtain⟨K,aQ⟩:=aC.o;have ax:=K.size;have aA:=Z K;have ag:=Z<|af.o.trans<|K.mono az;rcases aQ with⟨X,bj⟩|⟨rfl,g,X,a4,a5⟩
   .have j:((C:Int) != 0)=true:=by simp;omega
    have h:=Z<|aH.o C wc (by rw[G.o.go,V.o,We];exact LK X) ag.o;go_wp2_with fail;exact h.o
   have ai:=Z X;have am:=Z a4;have aN:=Z a5;have aJ:=Z<|G.o.new.below K;have au:=bB K (lB N) aG.o;have k6:=bC au 6;simp at k6;have av:=lB au;go_wp2_with fail
   go_loopw [11,12] (λbb ad wr=>∃k:Nat,k<=qs.length/\ad=.int .i64 k/\bb=.bool (b&&((qs.map (·.1)).take k).any (λx=>cC x g))/\Ze (Zd wc.heap.size wc wr)) (λ_ ad _=>qs.length-(Zk ad).toNat)
   case atStart=>exact⟨0,Wi _,rfl,by simp,VM _ _⟩
   obtain⟨k,hk,rfl,rfl,HK⟩:=hrel;have j:=HK.o;have a9:=j.size;have bq:=(VK<|j.block n av).trans k6;have bf:n<wr.heap.size:=by omega
   generalize aO:(b&&((qs.map (·.1)).take k).any (λx=>cC x g))=W at*;have ae:=Z aO;have t:=Z<|aJ.o.below j;have al:=Z<|aB j aN.o;have T:=Z<|ag.o.trans<|j.mono (by omega);have bc:=Z<|aA.o.trans<|j.mono ax;by_cases M:k<qs.length/\b=true/\W=false
   .obtain⟨ar,rfl,rfl⟩:=M;have aw:qs[k]?=some qs[k]:=VE ar;have E:=VQ ar;have aM:Ze<|((qs.map (·.1)).take<|k+1).any (λx=>cC x g)=(((qs.map (·.1)).take k).any (λx=>cC x g)||cC qs[k].1 g):=by unfold Ze;rw[V9,VO,aw];simp
    generalize qs[k]=q at*;obtain⟨gq,_,P,_,bl,eq⟩:=dA t.o.1 (j:=k) (u:=q.2) (by rw[df,VO,aw];rfl);cases P;have ac:=t.o.2 q E;have O:=G.o.each q E;obtain⟨qr,qv⟩:=q;obtain⟨qa,qn,qc,rfl⟩:=aF ac;simp only at eq ac O;have aL:=Z<|Uy (c7 (f:=vC) (λ_=>rfl) ac<|VR _) (c7 (f:=vC) (λ_=>rfl) al.o<|VR _) (by rw[O,am.o]) (by rw[O];exact Y);have bp:((k:Nat):Int)<((qs.length:Nat):Int):=by omega
    have aI:Ze<|cC qr g=(true&&((qs.map (·.1)).take<|k+1).any (λx=>cC x g)):=by unfold Ze;have h:=ae.o;simp only[X5]at h ⊢;rw[aM.o,h,Yq]
    go_wp2_with fail;apply(U aL).mono;rintro e w5⟨rfl,aP⟩;go_wp2_with fail;go_roundw
    case rel=>exact⟨k+1,by omega,by go_num,by rw[aI.o],Z<|(Z HK.o).o.trans<|aP.mono a9⟩
    simp[Zk];omega
   have O:Ze<|(b&&(qs.map (·.1)).any (λx=>cC x g))=W:=by
    have h:=ae.o;show _=W;cases b with
    |false=>simpa using h
    |true=>
     simp only[X5]at h ⊢;cases W with
     |true=>
      rw[Ys]at h ⊢;obtain⟨x,U,hs⟩:=h;exact⟨x,Wr U,hs⟩
     |false=>
      rw[VX (by rw[VL];have:¬k<qs.length:=λe=>M ⟨e,rfl,rfl⟩;omega)]at h;exact h
   have aq:(¬((k:Nat):Int)<((qs.length:Nat):Int))\/(((k:Nat):Int)<((qs.length:Nat):Int)/\b=false)\/(((k:Nat):Int)<((qs.length:Nat):Int)/\b=true/\W=true):=by
    by_cases h:k<qs.length
    .refine .inr ?_;cases b with
     |false=>exact .inl ⟨by omega,rfl⟩
     |true=>cases W with
      |true=>exact .inr ⟨by omega,rfl,rfl⟩
      |false=>exact absurd ⟨h,rfl,rfl⟩ M
    exact .inl<|by omega
   cases W with
   |true=>
    have U:Ze<|Td w wr o d b F I B len (i+1) (.slice va qs.length vc) qs:=⟨T.o,t.o,by rw[G.o.go,V.o,We];exact Ob ai.o O.o,G.o.each,by omega⟩;rcases aq with h|⟨h,rfl⟩|⟨h,rfl,_⟩;all_goals go_wp2_with fail
    all_goals
     go_roundw
     case rel=>exact⟨i+1,qs,by omega,by go_num,U⟩
     case measure=>simp[Zk];omega
   |false=>
    have aD:Ze<|o=mX b (qs.map (·.1)++[g]) (qs.map (·.1)++[g]) (fT d F I<|(B.drop<|i+1).map (·.1)):=by unfold Ze;rw[G.o.go,V.o,We];exact LL ai.o O.o
    have bu:=T.o.size;rcases aq with h|⟨h,rfl⟩|⟨_,_,h⟩
    rotate_left 2
    .cases h
    all_goals
     go_wp2_with (at_builtin;refine VS _ rfl (.tmp 82) (.tmp 84) 29 rfl w.heap.size 32 i0 _ 1 24 underlying29 aU a6 a7 a8 rfl (by decide) _ _ _ rfl (t.o.1.alloc _) ⟨wr.heap.size,0,none⟩ 1 1 [.slice a m c] rfl rfl ?d1 ?d2 ?d3 ?d4 ?d5 ?_);try (case d1=>exact cW wr [.slice a m c] 32)
     try (case d2=>first|rfl|(intro x hx;simp at hx;subst hx;rfl))
     case d3=>unfold Zj;omega
     case d4=>omega
     try (case d5=>first|omega|(simp;omega))
     intro v' w6 U aS aW;go_wp2_with fail;go_roundw
     case rel=>exact⟨i+1,_,by omega,by go_num,Z<|G.o.push (nv:=.slice a m c) T.o t.o al.o az am.o aD.o U aS⟩
     case measure=>simp[Zk];omega
  obtain rfl:i=B.length:=by omega
  have a:=Z<|an.o qs _ l (by rw[G.o.go,Wa];simp[fT,mX,kY,fq]) G.o.d G.o.new;go_wp2_with fail;exact a.o
def App.c{v:Zb}(h:App w W v u):w.grownBy W v.ownBlock:=⟨h.os,h.tape,h.output,Nat.le_of_lt h.size,λk hk a=>h.block hk λe=>a e.symm⟩
def Va(t:n<=w.heap.size)(o:w.ownsRow 0 34 3 u I.length<|c_ I)(D:I.length<=100000):
 ∃a b c5 h,(Builtin.append_ #[32,32] 32 #[qN,u]).run prog w=.ok (.slice a b c5) h/\qB w h/\h.ownsRow n 34 3 (.slice a b c5) I.length (c_ I):=by
 obtain⟨i,hi,c,d,e⟩:=V5 mK;obtain⟨rfl,q⟩|⟨g,cap,p,rfl,_,C,_⟩:=o.2
 .obtain rfl:I=[]:=V3.1 q;refine⟨none,0,0,w,?_,qW,VP _ _ _ _⟩;simp[Builtin.append_,run_underlying underlying32,sizeOf,typeInfo,hi,Builtin.lenOf,Builtin.firstCells,loadCells,loadCellsFrom]
 .obtain⟨y,x⟩:=iJ o;obtain⟨E,B,A,l,r,_,_⟩:=run_append_own_at (P:=prog) w n 32 32 34 i _ _ _ underlying32 hi c d e rfl (by decide) qN 0 [] (VP _ _ _ _) ⟨g,0,none⟩ I.length cap (c_ I) (kB I) (λj u z=>by rw[addr_add];exact x j u z) (yv I) (by unfold Zj;omega) (by omega) t;obtain⟨a,b,c5,rfl⟩:=aF l;exact⟨a,b,c5,B,A,a_ qW r (λk hk=>by cases hk) qZ,by simpa using l⟩
def Pz(L:JY w z o):
 Zc prog 139 #[z] w λe T=>qB w T/\∃a n c l,e=.returned (.slice a n c)/\lF T w.heap.size l (.slice a n c)/\l.map (·.1)=o.map (·.1):=by
 have O:=Z L;have Y:=L.len.2;obtain⟨la,lc,rfl⟩:=bN L.own;go_in;go_wp2
 go_loopw [3,4,5] (λs3 s4 _ wr=>∃(i:Nat) (a:Y8) (n c:Nat) (l:YZ),i<=o.length/\s4=qI (i:Nat)/\s3=.slice a n c/\Ze (qB w wr/\lF wr w.heap.size l (.slice a n c)/\l.map (·.1)=(o.take i).map (·.1))) (λ_ s _ _=>o.length-(Zk s).toNat)
 exact⟨0,none,0,0,[],qO,rfl,rfl,qW,⟨VP _ _ _ _,λq X=>(by cases X)⟩,rfl⟩
 case round=>
  obtain⟨i,a,n,c,l,hi,rfl,rfl,N⟩:=hrel;obtain⟨A,I,C⟩:=N.o;by_cases D:i<o.length
  .have x:o[i]?=some o[i]:=VE D;have b:=VQ D;have G:o.take (i+1)=o.take i++[o[i]]:=by rw[V9,x];rfl
   generalize o[i]=q at*;have h:=O.aL (w':=wr) λk hk=>A.block k<|O.lt hk;obtain⟨g,_,e,_,hg,x0⟩:=tG h.own (j:=i) (u:=q.2) (by rw[df,VO,x];rfl);injection e with e1 e2 e3;subst e1;have M:l.length=i:=by have:=Wd List.length C;simpa[XE hi]using this
   have B:=A.size;obtain⟨H,J,c5,w5,y,d,E⟩:=Va B (h.rows.1 q b)<|h.len.1 q b;have p:=I.below d;obtain⟨v6,U,(W:Ze _),r,t⟩:=Pm underlying29 iN rfl (by decide) (by decide) p.1 (by have:=d.size;omega) (m:=1) (news:=[.slice H J c5]) (by decide) rfl (λu R=>by simp at R;subst R;rfl) (by omega) 29;obtain⟨P,S,Q,rfl⟩:=aF r;have K:Ze<|qB w U/\lF U w.heap.size (l++[(q.1,.slice H J c5)]) (.slice P S Q)/\(l++[(q.1,Zb.slice H J c5)]).map (·.1)=(o.take<|i+1).map (·.1):=
    ⟨a_ (A.trans<|d.mono B) t.c (λk hk=>(p.1.lt k hk).1) (by have:=d.size;omega),I.push (q:=(q.1,.slice H J c5)) d E r t.c,by rw[G,Wc,Wc,C];rfl⟩
   obtain⟨qa,qn,qc,F⟩:=aF<|h.rows.1 q b;rw[F]at x0 y;have V:=Z y;have aa:(i:Int)<(o.length:Int):=by omega
   clear y p E r t d h F e2 e3 G x b A I C N M;go_wp2_with (at_builtin;first|refine Lib.wpList_append_run _ rfl (.tmp 12) (.tmp 16) 32 32 rfl _ _ rfl rfl _ _ V ?_|refine Lib.wpList_append_run _ rfl (.tmp 18) (.tmp 20) 29 29 rfl _ _ rfl rfl _ _ W ?_);go_roundw;exact⟨i+1,P,S,Q,_,by omega,by go_num,rfl,K⟩;simp[Zk];omega
  obtain rfl:i=o.length:=by omega
  rw[Wj]at C;have b:=Z<|And.intro A<|And.intro I C;go_wp2;go_ret;exact⟨b.1,a,n,c,rfl,l,b.2.1,b.2.2⟩
def wS{c:Nat}{v:Zb}(h:B8 w G c k v)(o:c<2)(q:k<=90000000000):Zc prog 59 #[v,qI<|-1-(k:Int)] w<|qE (.bool true) w:=by
 obtain⟨n,t,_,h⟩:=h;rw[VG o]at h;unfold Gn at h;have r:(List.replicate n<|mV k).length=n:=by simp
 obtain⟨a,m,e⟩:=bN h;subst e;have H:Ze (∀i,i<n->∃g,a=some ⟨g,0,none⟩/\g<w.heap.size/\w.cell? ⟨g,i*3,none⟩=some (qI<|-1-(k:Int))/\w.cell? ⟨g,i*3+1,none⟩=some (qI 0)/\w.cell? ⟨g,i*3+2,none⟩=some (.string ⟨#[]⟩)):=λi hi=>by
  obtain⟨g,e,c1,c2⟩:∃g,a=some ⟨g,0,none⟩/\g<w.heap.size/\∀j u,(c_<|List.replicate n<|mV k)[j]?=some u->w.cell? ⟨g,j,none⟩=some u:=by
   obtain⟨_,p⟩|⟨g,cap,l,e,_⟩:=h.2
   .omega
   cases e;obtain⟨c1,c2⟩:=iJ h;exact⟨g,rfl,c1,c2⟩
  have d:(List.replicate n<|mV k)[i]?=some (mV k):=by rw[Xw,VG hi]
  exact⟨g,e,c1,c2 _ _<|nz vC 3 (λ_=>rfl) _ i 0 _ _ d rfl,c2 _ _<|nz vC 3 (λ_=>rfl) _ i 1 _ _ d rfl,c2 _ _<|nz vC 3 (λ_=>rfl) _ i 2 _ _ d rfl⟩
 go_in;go_wp2
 go_loop [5] (λb=>∃i:Nat,i<=n/\b=qI (i:Nat)) (λb=>n-(Zk b).toNat)
 exact⟨0,qO,rfl⟩;obtain⟨i,hi,rfl⟩:=hrel;by_cases d:i<n
 .obtain⟨g,rfl,l,p,u,x⟩:=H.o i d;have j:(i:Int)<(n:Int):=by omega
  go_wp2;go_round;exact⟨i+1,by omega,by go_num⟩;simp[Zk];omega
 go_wp2;go_ret;exact⟨rfl,rfl⟩
def wR{v:Zb}(h:B8 w G j k v)(o:¬j<2)(u:k<=90000000000):Zc prog 60 #[v,qI<|-1-(k:Int)] w<|qE (.bool true) w:=by
 obtain⟨n,x,_,h⟩:=h;rw[VF o]at h;obtain⟨r,_,d,h⟩:=h;obtain⟨a,m,e⟩:=bN h;subst e;have l:=bC d 0;simp[vC,mV]at l;have q:=lB d;have H:Ze (∀i,i<n->∃g,a=some ⟨g,0,none⟩/\g<w.heap.size/\w.cell? ⟨g,i,none⟩=some (qL r 1 1)):=λi hi=>by
  obtain⟨_,p⟩|⟨g,cap,c,e,_⟩:=h.2
  .omega
  cases e;obtain⟨c1,c2⟩:=iJ h;exact⟨g,rfl,c1,c2 i _<|by rw[zO,Xw,VG hi]⟩
 go_in;go_wp2
 go_loop [5] (λb=>∃i:Nat,i<=n/\b=qI (i:Nat)) (λb=>n-(Zk b).toNat)
 exact⟨0,qO,rfl⟩;obtain⟨i,hi,rfl⟩:=hrel;by_cases c:i<n
 .obtain⟨g,rfl,t,y⟩:=H.o i c;have p:(i:Int)<(n:Int):=by omega
  go_wp2;go_round;exact⟨i+1,by omega,by go_num⟩;simp[Zk];omega
 go_wp2;go_ret;exact⟨rfl,rfl⟩
structure B9(w:Za)(S:Y7)(wb came:Nat)(psv:Zb)(F:Y7)(kv wv:Zb)(vs:Nat->Zb)(ls:Nat->Y0)(qs ws:YZ)(n m:Nat):Prop where
 c:j_ w F wb came kv wv psv vs ls
 a:S_ ls n m
 l:JY w kv qs
 wr:lF w 0 ws wv
 d:∀k,HB wv ws k->F k
 eq:ws.map (·.1)=qs.map (·.1)
 ap:∀k,HB kv qs k->¬LS wb F vs k
 b:∀k,S k↔LS wb F vs k\/HB kv qs k
 e:n+qs.length<=15625*came/\m<=2*came
def xY(w:Za)(S:Y7)(wb came:Nat)(psv:Zb):Prop:=∃F kv wv vs ls qs ws n m,B9 w S wb came psv F kv wv vs ls qs ws n m
def lF.c{v:Zb}(h:lF w k o v):uU w (o.map (·.1)) v:=by refine uU.of (qy h.1 λq g=>c7 (f:=vC) (λ_=>rfl) (h.2 q g) qZ) λa n c e=>?_;obtain⟨i,j,b,d⟩:=cz h.1;rw[e]at b;cases b;exact d
def lF.aL{w':Za}{v:Zb}(h:lF w n o v)(a:∀k,HB v o k->w'.heap[k]?=w.heap[k]?):lF w' n o v:=⟨cN h.1 λk e=>a k<|.inl e,λq b=>cN (h.2 q b) λk e=>a k<|.inr ⟨q,b,e⟩⟩
def B9.lt{c:Nat->Zb}{b:Nat->Y0}{m:Nat}(h:B9 w G i j u H z A c b o p n m)(a:G k):k<w.heap.size:=((h.b k).1 a).elim h.c.lt h.l.lt
def B9.aL{w':Za}{c:Nat->Zb}{b:Nat->Y0}{m:Nat}(h:B9 w G i j u H z A c b o p n m)(d:w.heap.size<=w'.heap.size)(a:∀k,G k->w'.heap[k]?=w.heap[k]?):B9 w' G i j u H z A c b o p n m:=
 ⟨h.c.aL d λk e=>a k<|(h.b k).2<|.inl e,h.a,h.l.aL λk e=>a k<|(h.b k).2<|.inr e,h.wr.aL λk e=>a k<|(h.b k).2<|.inl<|.inr<|.inl<|h.d k e,h.d,h.eq,h.ap,h.b,h.e⟩
def B9.same{g:Nat->Zb}{e:Nat->Y0}{m:Nat}(h:B9 w G k i u H z A g e o p n m)(a:qB w W):Zc prog 58 #[z,A] W<|qF (.bool true) W:=by
 have b:=h.wr.c;rw[h.eq]at b
 exact Dw (h.l.c.below a) (b.below a) (by rw [VL];exact h.l.len.2) (λr d=>by
  obtain⟨q,c,rfl⟩:=VV.1 d
  exact h.l.len.1 q c)
def j_.q{x:Nat}{M:Nat->Zb}{r:Nat->Y0}(h:j_ w G i x u z A M r)(c:Nat)(hc:c=0\/c=2){p:Nat}(h1:(r c).length=n)(S:(r<|c+1).length=3*n)(hk:k<n)(hp:p=3*k){oa ta:Y8}{on oc tn tc:Nat}(e1:M c=.slice oa on oc)(e2:M (c+1)=.slice ta tn tc):
 ∃(g l:Nat) (N O P Q:Y8) (H C I D J E K F:Nat),oa=some ⟨g,0,none⟩/\ta=some ⟨l,0,none⟩/\g<w.heap.size/\l<w.heap.size/\(w.cell? ⟨g,k,none⟩=some (.slice N H C)/\w.cell? ⟨l,p,none⟩=some (.slice O I D)/\w.cell? ⟨l,p+1,none⟩=some (.slice P J E)/\w.cell? ⟨l,p+2,none⟩=some (.slice Q K F))/\B8 w G c k (.slice N H C)/\B8 w G (c+1) k (.slice O I D)/\B8 w G (c+1) k (.slice P J E)/\B8 w G (c+1) k (.slice Q K F):=by
 have U:∀R k' v,B8 w G R k' v->∃a m d,v=.slice a m d:=λR k' v ⟨q,_,_,t⟩=>by
  by_cases S:R<2
  .rw[VG S]at t;exact aF t
  rw[VF S]at t;obtain⟨_,_,_,t⟩:=t;exact aF t
 have b:∀d j,d<4->j<(r d).length->∃g cap a m B,M d=qL g (r d).length cap/\g<w.heap.size/\w.cell? ⟨g,j,none⟩=some (.slice a m B)/\B8 w G d (idx d j) (.slice a m B):=λd j hd hj=>by have X:(r d)[j]?=some ((r d)[j]):=VE hj;have T:=h.full d j _ hd X;obtain⟨a,m,B,e⟩:=U _ _ _ T;rw[e]at X T;obtain⟨g,cap,e',_,V,o⟩:=tG (h.own d hd) X;exact⟨g,cap,a,m,B,e',V,o,T⟩
 obtain⟨g,_,N,H,C,L,V,c0,Z⟩:=b c k (by omega) (by omega);obtain⟨l,_,O,I,D,y,W,c1,f1⟩:=b (c+1) p (by omega) (by omega);obtain⟨_,_,P,J,E,q2,_,c2,f2⟩:=b (c+1) (p+1) (by omega) (by omega);obtain⟨_,_,Q,K,F,q3,_,c3,f3⟩:=b (c+1) (p+2) (by omega) (by omega);rw[y]at q2 q3;cases q2;cases q3;rw[e1]at L;rw[e2]at y;injection L with L _ _;injection y with y _ _;have i0:∀j,idx c j=j:=λj=>by rw[idx,VG<|by omega]
 have Y:∀j,idx (c+1) j=j / 3:=λj=>by rw[idx,VF<|by omega]
 rw[i0]at Z;rw[Y,show p / 3=k by omega]at f1;rw[Y,show(p+1) / 3=k by omega]at f2;rw[Y,show(p+2) / 3=k by omega]at f3;exact⟨g,l,N,O,P,Q,H,C,I,D,J,E,K,F,L,y,V,W,⟨c0,c1,c2,c3⟩,Z,f1,f2,f3⟩
def Sp{vs:Nat->Zb}{ls:Nat->Y0}{ws:YZ}{m:Nat}(h:B9 w G i j u H z A vs ls o ws n m)(hc:j<=1100000):
 Zc prog 34 #[.pointer<|some ⟨i,0,none⟩] w λe J=>e=.returned (.bool true)/\qB w J:=by
 have hb:=h.e;have⟨hn,hm⟩:n<=20000000000/\m<=20000000000:=by omega
 have C:=lB h.c.box;have M:=bC h.c.box 2;have N:=bC h.c.box 3;simp at M N;obtain⟨ka,kn,kc,D⟩:=aF h.l.own;obtain⟨wa,wn,Y,I⟩:=aF h.wr.1;have HC:Ze (∀p:dx w,Zc prog 58 #[.slice ka kn kc,.slice wa wn Y] p.val λe J=>e=.returned (.bool true)/\∃p':dx w,J=p'.val):=λp=>by rw[<-D,<-I];exact(h.same p.d).mono (λe J ⟨g,hb⟩=>⟨g,⟨J,p.d.trans<|hb.mono p.d.size⟩,rfl⟩)
 rw[D]at M;rw[I]at N;have p2:=λp=>dx.cell C M p;have p3:=λp=>dx.cell C N p;have HX:=Z h.c;have c:=Z h.a;have aa:∀(a:Y_) (w:Za),(Zi 58 a).run prog w=.ok (.enter 58 a) w:=wM;go_in;go_upto_region 1 with fail
 have aq:Inhabited<|dx w:=dx.first w;refine eV (by kernel_rfl) (by kernel_rfl) ?_;repeat (go_big_quiet_step (exact HC _))
 refine wpQuiet_nil ?_;intro _ Q;obtain⟨pb,F⟩:=Q;subst F;have HB:=Z pb.d;have d:=HX.aL pb.d.size λk hk=>pb.d.block k<|HX.lt hk;generalize pb.val=W at*;have B:=Z d;obtain⟨oa,oc,T,-⟩:=cz<|d.own 0 (by decide);obtain⟨ta,tc,U,-⟩:=cz<|d.own 1 (by decide);obtain⟨ua,uc,V,-⟩:=cz<|d.own 2 (by decide);obtain⟨xa,xc,X,-⟩:=cz<|d.own 3 (by decide);rw[c.1]at T;rw[c.2.1]at U;rw[c.2.2.1]at V;rw[c.2.2.2]at X;have k1:=bC d.box 1;have k5:=bC d.box 5;have R:=bC d.box 6;have k7:=bC d.box 7;have S:=bC d.box 8;simp at k1 k5 R k7 S;have aj:=lB d.box;rw[T]at k5;rw[U]at R;rw[V]at k7;rw[X]at S;have K:Ze (∀k p,k<n->p=3*k->_):=λk p hk E=>B.q 0 (.inl rfl) c.1 c.2.1 hk E T U;have L:Ze (∀k p,k<m->p=3*k->_):=λk p hk E=>B.q 2 (.inr rfl) c.2.2.1 c.2.2.2 hk E V X;obtain⟨x,P,q⟩:∃x:Nat,3*n=x/\Ze (x=3*n):=⟨_,rfl,rfl⟩;obtain⟨t,O,l⟩:∃t:Nat,3*m=t/\Ze (t=3*m):=⟨_,rfl,rfl⟩;rw[P]at R;rw[O]at S;go_wp2
 go_loop [4] (λb=>∃k:Nat,k<=n/\b=.int .i64 (k:Nat)) (λb=>n-(Zk b).toNat)
 exact⟨0,qO,rfl⟩
 case round=>
  obtain⟨k,hk,rfl⟩:=hrel;by_cases r:k<n
  .obtain⟨p,E,y⟩:∃p:Nat,(3:Int)*(k:Int)=(p:Nat)/\Ze (p=3*k):=⟨3*k,by omega,rfl⟩;obtain⟨g,g3,x0,x1,x2,x3,m0,d0,m1,d1,m2,d2,ar,d3,rfl,rfl,hg,af,⟨c0,c1,c2,c3⟩,f0,f1,f2,f3⟩:=K.o k p r y;have H0:=Z<|wS f0 (by decide) (by omega);have H1:=Z<|wS f1 (by decide) (by omega);have H2:=Z<|wS f2 (by decide) (by omega);have H3:=Z<|wS f3 (by decide) (by omega);have ah:((k:Nat):Int)<((n:Nat):Int):=by omega
   have ak:p<=90000000000:=by have:=y.o;omega
   have am:((p:Nat):Int)<((x:Nat):Int):=by have:=y.o;have:=q.o;omega
   have ab:((p:Nat):Int)+1<((x:Nat):Int):=by have:=y.o;have:=q.o;omega
   have ad:((p:Nat):Int)+2<((x:Nat):Int):=by have:=y.o;have:=q.o;omega
   have ao:IntKind.i64.wrap ((p:Nat):Int)=((p:Nat):Int):=by rw[WT];omega
   go_wp2_with fail;refine H0.mono ?_;rintro e w5⟨rfl,rfl⟩;go_wp2_with fail;refine H1.mono ?_;rintro e w6⟨rfl,rfl⟩;go_wp2_with fail;refine H2.mono ?_;rintro e w7⟨rfl,rfl⟩;go_wp2_with fail;refine H3.mono ?_;rintro e w8⟨rfl,rfl⟩;go_wp2;go_round;exact⟨k+1,by omega,by go_num⟩;simp[Zk];omega
  go_wp2
  go_loop [10] (λb=>∃k:Nat,k<=m/\b=.int .i64 (k:Nat)) (λb=>m-(Zk b).toNat)
  exact⟨0,qO,rfl⟩;obtain⟨k,hk,rfl⟩:=hrel;by_cases r:k<m
  .obtain⟨p,E,y⟩:∃p:Nat,(3:Int)*(k:Int)=(p:Nat)/\Ze (p=3*k):=⟨3*k,by omega,rfl⟩;obtain⟨g,g3,x0,x1,x2,x3,m0,d0,m1,d1,m2,d2,au,d3,rfl,rfl,hg,ag,⟨c0,c1,c2,c3⟩,f0,f1,f2,f3⟩:=L.o k p r y;have ai:((k:Nat):Int)<((m:Nat):Int):=by omega
   have al:p<=90000000000:=by have:=y.o;omega
   have an:((p:Nat):Int)<((t:Nat):Int):=by have:=y.o;have:=l.o;omega
   have ac:((p:Nat):Int)+1<((t:Nat):Int):=by have:=y.o;have:=l.o;omega
   have ae:((p:Nat):Int)+2<((t:Nat):Int):=by have:=y.o;have:=l.o;omega
   have ap:IntKind.i64.wrap ((p:Nat):Int)=((p:Nat):Int):=by rw[WT];omega
   go_wp2_with fail;apply(Z<|wR f0 (by decide)<|by omega).mono;rintro e w5⟨rfl,rfl⟩;go_wp2_with fail;apply(Z<|wR f1 (by decide)<|by omega).mono;rintro e w6⟨rfl,rfl⟩;go_wp2_with fail;apply(Z<|wR f2 (by decide)<|by omega).mono;rintro e w7⟨rfl,rfl⟩;go_wp2_with fail;apply(Z<|wR f3 (by decide)<|by omega).mono;rintro e w8⟨rfl,rfl⟩;go_wp2;go_round;exact⟨k+1,by omega,by go_num⟩;simp[Zk];omega
  go_wp2;go_ret;exact⟨rfl,HB⟩
def pE.or{b:Y7}(h:pE w G W b)(H:Y7):pE w (λk=>G k\/H k) W (λk=>b k\/H k):=
 ⟨⟨h.aL.os,h.aL.tape,h.aL.output,h.aL.size,λk hk=>h.aL.block k ⟨hk.1,λa=>hk.2<|.inl a⟩⟩,λk hk=>hk.elim (λa=>(h.new k a).imp .inl id) λc=>.inl<|.inr c⟩
def pE.to{N:Y7}(h:pE w G W H)(a:∀k,N k->H k\/w.heap.size<=k):pE w G W N:=⟨h.aL,λk hk=>(a k hk).elim (h.new k) .inr⟩
def uT(k:Nat):¬HB qN [] k:=λh=>by
 obtain h|⟨q,a,_⟩:=h
 .cases h
 cases a
def DQ(w:Za)(S0:Y7)(wb came:Nat)(psv:Zb)(e:Zg)(w':Za):Prop:=e=.returned (.tuple #[])/\∃S',xY w' S' wb (came+1) psv/\pE w S0 w' S'
def SQ{F:Y7}{S:Nat->Zb}{ls:Nat->Y0}{ws:YZ}{m:Nat}(h:B9 w H i j u F z A S ls o ws n m)(hc:j<=1100000){c:YZ}(hM:JY w B c)(aW:c.length<=15625)(hd:∀k,HB B c k->¬H k):
 Zc prog 89 #[qP i,B] w (DQ w (λk=>H k\/HB B c k) i j u):=by
 have aR:=h.e;obtain rfl:H=(λk=>LS i F S k\/HB z o k):=funext λk=>propext<|h.b k;have aS:=lB h.c.box;have HX:=Z h;have HM:=Z hM;have HD:=Z hd;obtain⟨D,E,rfl⟩:=bN hM.own;have ay:Ze (∀k,HB (.slice D c.length E) c k->k<w.heap.size):=λk hk=>hM.lt hk;obtain⟨M,O,N,rfl⟩:=aF h.l.own;obtain⟨wa,wn,aa,rfl⟩:=aF h.wr.1;have aM:∀(a:Y_) (w:Za),(Zi 58 a).run prog w=.ok (.enter 58 a) w:=wM;go_in;go_wp2_with fail;apply(U<|Z<|Pz hM).mono;rintro e w1⟨(P:Ze _),t,y,c2,d,rfl,aK,(aj:Ze _)⟩;have V:=HX.o.aL P.size λk hk=>P.block k<|HX.o.lt hk;have aB:=Z aK;have b2:=bC V.c.box 2;have b3:=bC V.c.box 3;simp at b2 b3;have ac:=lB V.c.box;have HC:Ze (∀p:dx w1,Zc prog 58 #[.slice M O N,.slice wa wn aa] p.val λe w'=>e=.returned (.bool true)/\∃p':dx w1,w'=p'.val):=λp=>
  (V.same p.d).mono (λe w' ⟨he,hb⟩=>⟨he,⟨w',p.d.trans<|hb.mono p.d.size⟩,rfl⟩)
 have p2:=λp=>dx.cell ac b2 p;have p3:=λp=>dx.cell ac b3 p;go_upto_region 1 with fail
 have aX:Inhabited<|dx w1:=dx.first w1;refine eV (by kernel_rfl) (by kernel_rfl) ?_;repeat (go_big_quiet_step (exact HC _))
 refine wpQuiet_nil ?_;intro _ aJ;obtain⟨pb,av⟩:=aJ;subst av;have X:qB w pb.val:=P.trans<|pb.d.mono P.size;have af:=aB.below pb.d;have aQ:w1.heap.size<=pb.val.heap.size:=pb.d.size;have aP:=P.size;generalize pb.val=W at*;have J:=HX.aL X.size λk hk=>X.block k<|HX.lt hk;have an:=HM.aL (w':=W) λk hk=>X.block k<|HM.lt hk;have ab:∀k,HB (.slice t y c2) d k->w.heap.size<=k/\k<W.heap.size:=λk hk=>by
  obtain hk|⟨q,hq,hk⟩:=hk
  .exact af.1.lt k hk
  exact(af.2 q hq).lt k hk
 have ao:∀k,(LS i F S k\/HB (.slice M O N) o k)->k<w.heap.size:=λk hk=>HX.lt hk;have az:Ze<|pE w (λk=>LS i F S k\/HB (.slice M O N) o k) W λk=>LS i F S k\/HB (.slice M O N) o k:=pE.below _ X;have m2:=bC J.c.box 2;simp at m2;have mz:=lB J.c.box;have ah:Ze (∀Y,DO W (λk=>LS i F S k\/HB (.slice M O N) o k) i j (.slice M O N) (.slice wa wn aa) u (n+o.length) (m+1) (.returned<|.tuple #[]) Y->∃T g x,j_ Y T i j (.slice M O N) (.slice wa wn aa) u g x/\S_ x (n+o.length) (m+1)/\pE w (λk=>LS i F S k\/HB (.slice M O N) o k) Y (LS i T g)/\JY Y (.slice D c.length E) c/\lF Y w.heap.size d (.slice t y c2)/\(∀k,HB (.slice D c.length E) c k\/HB (.slice t y c2) d k->¬LS i T g k)):=λY ⟨_,T,g,x,g1,g2,Q⟩=>by have hl:∀k,HB (.slice D c.length E) c k->k<W.heap.size/\¬(LS i F S k\/HB (.slice M O N) o k):=λk hk=>⟨an.lt hk,HD k hk⟩;have h2:∀k,HB (.slice t y c2) d k->k<W.heap.size/\¬(LS i F S k\/HB (.slice M O N) o k):=λk hk=>⟨(ab k hk).2,λhh=>by have:=ao k hh;have:=(ab k hk).1;omega⟩;exact⟨T,g,x,g1,g2,az.trans Q,an.aL λk hk=>Q.aL.block k<|hl k hk,af.aL λk hk=>Q.aL.block k<|h2 k hk,λk hk=>hk.elim (λhk=>Q.not (hl k hk).1 (hl k hk).2) λhk=>Q.not (h2 k hk).1 (h2 k hk).2⟩
 go_wp2_with apply(Z<|NQ J.c J.a J.l J.ap (by omega)<|by omega).mono;intro e Y hp;have he:=hp.1;subst he;obtain⟨T,g,x,g1,g2,Q,g4,g5,g6⟩:=ah.o Y hp;have au:=g5.c;rw[aj]at au
 have aA:=Z (Dw g4.c au (by rw [VL];omega) (λr hr=>by
  obtain⟨q,hq,rfl⟩:=VV.1 hr
  exact g4.len.1 q hq))
 go_wp2_with fail;apply qR aA;intro w3 K;obtain⟨g1,g2,Q,g4,g5,g6⟩:=(Z<|And.intro g1<|And.intro g2<|And.intro Q<|And.intro g4<|And.intro g5 g6).o;have l:=g1.aL K.size λk hk=>K.block k<|g1.lt hk;have R:∀k,HB (.slice t y c2) d k->w.heap.size<=k/\k<Y.heap.size:=λk hk=>by
  obtain hk|⟨q,hq,hk⟩:=hk
  .exact g5.1.lt k hk
  exact(g5.2 q hq).lt k hk
 have ax:Ze<|j_ w3 T i j (.slice M O N) (.slice wa wn aa) u g x/\S_ x (n+o.length) (m+1)/\pE w (λk=>LS i F S k\/HB (.slice M O N) o k) w3 (LS i T g)/\JY w3 (.slice D c.length E) c/\lF w3 w.heap.size d (.slice t y c2)/\(∀k,HB (.slice D c.length E) c k\/HB (.slice t y c2) d k->¬LS i T g k)/\(∀k,HB (.slice t y c2) d k->w.heap.size<=k/\k<w3.heap.size):=⟨l,g2,Q.trans<|pE.below _ K,g4.aL λk hk=>K.block k<|g4.lt hk,g5.below K,g6,λk hk=>⟨(R k hk).1,VT (R k hk).2 K.size⟩⟩;have m0:=bC l.box 0;have m1:=bC l.box 1;have m2:=bC l.box 2;have m3:=bC l.box 3;simp at m0 m1 m2 m3;have f0:=bF l.box 0;have f1:=bF l.box 1;have f2:=bF l.box 2;have f3:=bF l.box 3;have aU:=lB l.box;go_upto_region 8 with fail
 have C:nu i w3<|(((w3.setCell ⟨i,1,none⟩<|.bool false).setCell ⟨i,2,none⟩ qN).setCell ⟨i,3,none⟩ qN).setCell ⟨i,0,none⟩<|qI<|(j:Int)+1:=((((nu.refl _ _).set 1 _).set 2 _).set 3 _).set 0 _;have ap:=bS (bS (bS (bS (Z l.box) 1<|.bool false) 2 qN) 3 qN) 0<|qI<|(j:Int)+1;generalize ((((w3.setCell ⟨i,1,none⟩<|.bool false).setCell ⟨i,2,none⟩ qN).setCell ⟨i,3,none⟩ qN).setCell ⟨i,0,none⟩<|qI<|(j:Int)+1)=w5 at*;have b:w5.heap[i]?=some (lp (j+1) qN qN u g):=by simpa[lp]using ap
 obtain⟨g1,g2,Q,g4,g5,g6,g7⟩:=ax.o;obtain⟨(ad:Ze _),aH⟩:=g1.put C b;have L:∀k,HB (.slice D c.length E) c k\/HB (.slice t y c2) d k->w5.heap[k]?=w3.heap[k]?:=λk hk=>C.block k λe=>g6 k hk<|.inl e;have aE:=g4.aL (w':=w5) λk hk=>L k<|.inl hk;have aG:=g5.aL (w':=w5) λk hk=>L k<|.inr hk;have al:=Z<|(Q.trans aH).or<|HB (.slice D c.length E) c;have p0:=bC b 0;have p2:=bC b 2;have p3:=bC b 3;simp at p0 p2 p3;have q2:=bF b 2;have q3:=bF b 3;have aV:=lB b;have ak:=Z aE;have am:=Z aG;have ai:=Z g2;have I:=Z g6;have ae:Ze (∀k,HB (.slice t y c2) d k->w.heap.size<=k/\k<w5.heap.size):=λk hk=>by rw[C.size];exact g7 k hk
 by_cases aT:(j+1) % 2=0
 .have aq:((((j:Int)+1) % 2)==0)=true:=by simp;omega
  have aN:(Int.tmod ((j:Int)+1) 2==0)=true:=by rw[Yf<|by omega];exact aq
  have HM:=Z<|NQ ad ai ak (λk hk=>I k<|.inl hk) (by omega) (by omega);go_wp2_with fail;apply qR HM;rintro w6⟨F6,aw,aL,k1,k2,k3⟩;have HE:Ze<|DQ w (λk=>(LS i F S k\/HB (.slice M O N) o k)\/HB (.slice D c.length E) c k) i j u (.returned<|.tuple #[]) w6:=⟨rfl,LS i F6 aw,⟨F6,_,_,aw,aL,[],[],_,_,⟨k1,k2,⟨VP _ _ _ _,⟨by simp,.nil⟩,by simp,by simp⟩,⟨VP _ _ _ _,by simp⟩,λk hk=>absurd hk<|uT k,rfl,λk hk=>absurd hk<|uT k,λk=>⟨.inl,λhh=>hh.elim id λhk=>absurd hk<|uT k⟩,by simp;omega⟩⟩,al.trans k3⟩;go_wp2;exact WL (v:=.tuple #[]) (by simp[Zh,results89,go_sem]) rfl HE
 .have ar:((((j:Int)+1) % 2)==0)=false:=by simp;omega
  have aO:(Int.tmod ((j:Int)+1) 2==0)=false:=by rw[Yf<|by omega];exact ar
  go_wp2_with fail;refine WL (v:=.tuple #[]) (by simp[Zh,results89,go_sem]) rfl ?_;have C:nu i w5<|(w5.setCell ⟨i,2,none⟩<|.slice D c.length E).setCell ⟨i,3,none⟩<|.slice t y c2:=((nu.refl _ _).set 2 _).set 3 _;have ag:((w5.setCell ⟨i,2,none⟩<|.slice D c.length E).setCell ⟨i,3,none⟩<|.slice t y c2).heap[i]?=some (lp (j+1) (.slice D c.length E) (.slice t y c2) u g):=by simpa[lp]using(bS (bS ad.box 2<|.slice D c.length E) 3<|.slice t y c2)
  obtain⟨aC,aI⟩:=ad.put C ag;have L:∀k,HB (.slice D c.length E) c k\/HB (.slice t y c2) d k->_:=λk hk=>C.block k λe=>I k hk<|.inl e;have aD:=aC.more (G:=HB (.slice t y c2) d) λk hk=>⟨by rw[C.size];exact(ae k hk).2,I k<|.inr hk⟩;refine⟨rfl,λk=>LS i (λk=>T k\/HB (.slice t y c2) d k) g k\/HB (.slice D c.length E) c k,⟨_,_,_,g,x,c,d,_,_,⟨aD,ai,ak.aL λk hk=>L k<|.inl hk,⟨bU (am.aL λk hk=>L k<|.inr hk).1 qO,λq hq=>bU ((am.aL λk hk=>L k<|.inr hk).2 q hq) qO⟩,λk hk=>.inr hk,aj,λk hk hl=>?_,λk=>Iff.rfl,by omega⟩⟩,((al.trans<|aI.or _)).to λk hk=>?_⟩
  .obtain e|(e|e)|e:=hl
   .exact I k (.inl hk)<|.inl e
   .exact I k (.inl hk)<|.inr<|.inl e
   .have:=ay.o k hk;have:=(ae k e).1;omega
   exact I k (.inl hk)<|.inr<|.inr e
  obtain(e|(e|e)|e)|e:=hk
  .exact .inl<|.inl<|.inl e
  .exact .inl<|.inl<|.inr<|.inl e
  .exact .inr (ae k e).1
  .exact .inl<|.inl<|.inr<|.inr e
  exact .inl<|.inr e
def xY.lt(h:xY w G i j u)(a:G k):k<w.heap.size:=by obtain⟨F,b,g,d,c,qs,e,n,m,h⟩:=h;exact h.lt a
def xY.aL{w':Za}(h:xY w G i j u)(b:w.heap.size<=w'.heap.size)(a:∀k,G k->w'.heap[k]?=w.heap[k]?):xY w' G i j u:=by obtain⟨F,c,l,e,d,qs,g,n,m,h⟩:=h;exact⟨F,c,l,e,d,qs,g,n,m,h.aL b a⟩
def xY.box(h:xY w G i j u):G i/\∃b c g,w.heap[i]?=some (lp j b c u g)/\∀l a,nu i w l->l.heap[i]?=some (lp j b c a g)->xY l G i j a:=by obtain⟨F,b,c,g,r,qs,p,n,m,h⟩:=h;refine⟨(h.b i).2<|.inl<|.inl rfl,b,c,g,h.c.box,λl a o q=>?_⟩;have d:∀k,HB b qs k\/HB c p k->l.heap[k]?=w.heap[k]?:=λk hk=>o.block k λe=>hk.elim (λhk=>h.ap k hk<|.inl e) λhk=>(h.c.fix k<|h.d k hk).2.1 e;exact⟨F,b,c,g,r,qs,p,n,m,(h.c.put o q).1,h.a,h.l.aL λk hk=>d k<|.inl hk,h.wr.aL λk hk=>d k<|.inr hk,h.d,h.eq,h.ap,h.b,h.e⟩
structure kN(B0:Nat)(w0 w:Za)(jx:Nat->Int)(S:Y7)(wb came:Nat)(psv:Zb)(ps:List Pr):Prop where
 d:Zd B0 w0 w
 g:B0<=w.heap.size
 l:∀k,k<B0->jx k=-5\/jx k=-1
 law:xY w S wb came psv
 row:w.ownsRow 0 71 1 psv ps.length<|ps.map pR
 each:∀(i:Nat) (p:Pr),ps[i]?=some p->Rq w p
 a:∀k,Gl k->jx k=-1/\k<w.heap.size
 h:∀k,S k->jx k=-2
 j:∀k,psv.ownBlock=some k->jx k=-3
 b:∀(i:Nat) (p:Pr),ps[i]?=some p->jx p.a=-4
 c:∀(i:Nat) (p:Pr),ps[i]?=some p->∀k,p.M k->jx k=2*(i:Int)
 e:∀(i:Nat) (p:Pr),ps[i]?=some p->∀k,p.R k->jx k=2*(i:Int)+1
def kN.rest{y b:Nat->Int}{o:Nat}{q:List Pr}(h:kN n W w y G j o u q){c:Int}(d:∀k,k<w.heap.size->b k=y k)(l:KP (λk=>k<w.heap.size/\y k≠c) w x):
 (c≠-2->xY x G j o u/\∀k,G k->b k=-2)/\(c≠-3->x.ownsRow 0 71 1 u q.length (q.map pR)/\∀k,u.ownBlock=some k->b k=-3)/\(∀k,Gl k->b k=-1/\k<x.heap.size) /\
 (∀(i:Nat)(p:Pr),q[i]?=some p->b p.a=-4)/\(∀(i:Nat)(p:Pr),q[i]?=some p->∀k,p.M k->b k=2*(i:Int))/\(∀(i:Nat)(p:Pr),q[i]?=some p->∀k,p.R k->b k=2*(i:Int)+1) /\
 (c≠-1->c≠-4->∀(i:Nat) (p:Pr),q[i]?=some p->c≠2*(i:Int)->c≠2*(i:Int)+1->Rq x p)/\(c≠-5->c≠-1->Zd n W x/\n<=x.heap.size/\∀k,k<n->b k=-5\/b k=-1):=by
 have hs:=l.size;have hk:∀k,k<w.heap.size->y k≠c->x.heap[k]?=w.heap[k]?:=λk z B=>l.block k ⟨z,B⟩;refine⟨λC=>⟨h.law.aL hs λk a=>hk k (h.law.lt a) (by rw[h.h k a];omega),λk a=>by rw[d k<|h.law.lt a];exact h.h k a⟩,λC=>⟨cN h.row λk a=>hk k (h.row.lt k a).2 (by rw[h.j k a];omega),λk a=>by rw[d k (h.row.lt k a).2];exact h.j k a⟩,λk A=>⟨by rw[d k (h.a k A).2];exact(h.a k A).1,VT (h.a k A).2 hs⟩,λi p g=>by rw[d _ (h.each i p g).lt.1];exact h.b i p g,λi p g k r=>by rw[d _<|(h.each i p g).lt.2.1 k r];exact h.c i p g k r,λi p g k r=>by rw[d _<|(h.each i p g).lt.2.2 k r];exact h.e i p g k r,?_,λE z=>⟨⟨l.os.trans h.d.os,l.tape.trans h.d.tape,l.output.trans h.d.output,Wf h.d.size hs,λk a=>(hk k (VT a h.g) (by obtain e|e:=h.l k a<;>rw[e]<;>omega)).trans<|h.d.block k a⟩,Wf h.g hs,λk a=>by rw[d k<|VT a h.g];exact h.l k a⟩⟩;intro z D i p g F H;have t:=h.each i p g;refine t.aL hs λk a=>?_;obtain a|a|a|rfl:=a
 .exact hk k (t.lt.2.1 k a) (by rw[h.c i p g k a];omega)
 .exact hk k (t.lt.2.2 k a) (by rw[h.e i p g k a];omega)
 .exact hk k (h.a k a).2 (by rw[(h.a k a).1];omega)
 .exact hk _ t.lt.1 (by rw[h.b i p g];omega)
def kN.q{z:Za}{M:Nat->Int}{F c:Nat}{y:List Pr}(h:kN n W w M G F c u y){p:Pr}(b:y[i]?=some p)(r:pE w p.M z H)(L:Live z H p.b g K):∃a,kN n W z a G F c u<|y.set i ⟨p.a,p.b,p.c,H,p.R,g,p.d,K,p.E⟩:=by
 obtain⟨a,I,J,l⟩:=Oo r<|h.c i p b;obtain⟨B,C,P,D,Q,E,R,S⟩:=h.rest I l;have e:=h.each i p b;obtain⟨N,O,t⟩:=S (by omega) (by omega);refine⟨a,N,O,t,(B<|by omega).1,(by rw[Wu,KA (x:=⟨p.a,p.b,p.c,H,p.R,g,p.d,K,p.E⟩) b rfl];exact(C<|by omega).1),λj q d=>?_,P,(B<|by omega).2,(C<|by omega).2,λj q d=>?_,λj q d k hk=>?_,λj q d k hk=>?_⟩
 .obtain⟨rfl,rfl⟩|⟨T,o⟩:=mF b d
  .exact⟨(l.block _ ⟨e.lt.1,by rw[h.b _ p b];omega⟩).trans e.box,L,e.a.step r,e.ref.aL r.aL.size λk A=>l.block k ⟨e.lt.2.2 k A,by rw[h.e _ p b k A];omega⟩⟩
  exact R (by omega) (by omega) j q o (by omega)<|by omega
 .obtain⟨rfl,rfl⟩|⟨A,o⟩:=mF b d
  .exact D _ p b
  exact D j q o
 .obtain⟨rfl,rfl⟩|⟨A,o⟩:=mF b d
  .exact J k hk
  exact Q j q o k hk
 obtain⟨rfl,rfl⟩|⟨A,o⟩:=mF b d
 .exact E _ p b k hk
 exact E j q o k hk
def kN.y{o:Za}{O:Nat->Int}{J c:Nat}{y:List Pr}(h:kN n W w O G J c u y){p:Pr}(b:y[i]?=some p)(C:pE w p.R o H)(N:jE o H p.c g K):∃a,kN n W o a G J c u<|y.set i ⟨p.a,p.b,p.c,p.M,H,p.lay,g,p.D,K⟩:=by
 obtain⟨a,L,M,l⟩:=Oo C<|h.e i p b;obtain⟨D,E,R,F,I,S,T,U⟩:=h.rest L l;have e:=h.each i p b;have z:∀k,Gl k->o.heap[k]?=w.heap[k]?:=λk A=>l.block k ⟨(h.a k A).2,by rw[(h.a k A).1];omega⟩;obtain⟨P,Q,t⟩:=U (by omega) (by omega);refine⟨a,P,Q,t,(D<|by omega).1,(by rw[Wu,KA (x:=⟨p.a,p.b,p.c,p.M,H,p.lay,g,p.D,K⟩) b rfl];exact(E<|by omega).1),λj q d=>?_,R,(D<|by omega).2,(E<|by omega).2,λj q d=>?_,λj q d k hk=>?_,λj q d k hk=>?_⟩
 .obtain⟨rfl,rfl⟩|⟨V,r⟩:=mF b d
  .exact⟨(l.block _ ⟨e.lt.1,by rw[h.b _ p b];omega⟩).trans e.box,e.live.c C.aL.size λk hk=>hk.elim (λB=>l.block k ⟨e.lt.2.1 k B,by rw[h.c _ p b k B];omega⟩)<|z k,e.a.c z,N⟩
  exact T (by omega) (by omega) j q r (by omega)<|by omega
 .obtain⟨rfl,rfl⟩|⟨B,r⟩:=mF b d
  .exact F _ p b
  exact F j q r
 .obtain⟨rfl,rfl⟩|⟨B,r⟩:=mF b d
  .exact I _ p b k hk
  exact I j q r k hk
 obtain⟨rfl,rfl⟩|⟨B,r⟩:=mF b d
 .exact M k hk
 exact S j q r k hk
def kN.below{e:Nat->Int}{a:Nat}{g:List Pr}(h:kN n W w e G j a u g)(b:qB w x):kN n W x e G j a u g:=by obtain⟨l,o,y,z,A,B,C,D⟩:=h.rest (c:=-9) (λk _=>rfl) ⟨b.os,b.tape,b.output,b.size,λk hk=>b.block k hk.1⟩;obtain⟨r,t,d⟩:=D (by omega) (by omega);exact⟨r,t,d,(l<|by omega).1,(o<|by omega).1,λi p q=>C (by omega) (by omega) i p q (by omega)<|by omega,y,(l<|by omega).2,(o<|by omega).2,z,A,B⟩
def jh(D:aI)(bl:Y3)(ts:Y6)(wh:aA)(ks:Y6):Option Nat:=match bq D [] bl with
 |.error e=>some e
 |.ok is=>match bT D [] is bl with
  |some e=>some e
  |none=>match bE (aw D is bl) ts with
   |some e=>some e
   |none=>match aT (aw D is bl) (aK wh) 3 with
    |some e=>some e
    |none=>bE (aw D is bl) ks
def zA{b:Y6}{e:Nat}(h:aT F R 0=some e):bE F (R::b)=some e:=by
 unfold aT at h;unfold bE;cases ht:bD F R with
 |error x=>rw[ht]at h;exact h
 |ok a=>rw[ht]at h;simp[dt]at h
def zy{a:Y6}(h:aT F R 0=none):bE F (R::a)=bE F a:=by obtain⟨c,b,_⟩:=gv h;rw[bE,b]
def CB{a:Y4}{b:Y3}{i:Nat}{c:ay}(d:a.length=i)(h:b[i]?=some c):aw K (a++[k]) (b.take<|i+1)=aw K a (b.take i)++ax c.aY (ak K k):=by
 have:=jk (db:=K) (is:=a++[k]) (aN:=b) (i:=i) (t:=k) (it:=c) (by rw[<-d];simp) h;have e:(a++[k]).take (i+1)=a++[k]:=VX (by simp[d]);have g:(a++[k]).take i=a:=by rw[WY<|by omega,VX<|by omega]
 rw[e,g]at this;exact this
def jj(b:ec K):∀{is:Y4}{aN:Y3},(∀k∈is,k<K.length)->(aw K is aN).length<=5*aN.length/\∀c∈aw K is aN,0<=c.type/\c.type<=3
 |[],aN,_=>by cases aN<;>simp[aw]
 |i::is,[],_=>by simp[aw]
 |i::is,it::aN,h=>by
  obtain⟨j,e⟩:=jj b (is:=is) (aN:=aN) λk hk=>h k (by simp[hk]);have d:=b.2 _<|dS<|h i (by simp);simp only[aw,VH,cH,Wk];refine⟨by have:=d.b;omega,λc a=>?_⟩;obtain a|a:=V1.1 a
  .obtain⟨x,g,rfl⟩:=VV.1 a;have:=(d.a x g).1;show 0<=x.2/\x.2<=3;omega
  exact e c a
def Pa(w:Za)(C:YY)(u:Zb):Prop:=DJ w C (List.replicate C.length aE,u)
def Pa.nil(w:Za):Pa w [] qN:=⟨rfl,VP _ _ _ _⟩
structure QT(w wr:Za)(D:aI)(bl:Y3)(i:Nat)(v:Zb)(is:Y4)(us:Y0):Prop where
 d:qB w wr
 own:wr.ownsRow w.heap.size 163 1 v us.length us
 len:us.length=i
 a:is.length=i
 c:∀k∈is,k<D.length
 go:bq D [] bl=kU is (bq D ((bl.take i).map (·.aY))<|bl.drop i)
 each:∀(j:Nat) (u:Zb),us[j]?=some u->Pa wr (aw D (is.take<|j+1)<|bl.take<|j+1) u
def QT.below{wr:Za}{b:Y3}{i:Nat}{v:Zb}{c:Y4}{d:Y0}(h:QT w wr K b i v c d)(a:qB wr W):QT w W K b i v c d:=
 ⟨h.d.trans<|a.mono h.d.size,aB a h.own,h.len,h.a,h.c,h.go,λj u e=>(h.each j u e).below a⟩
def QT.push{wr:Za}{e:Y3}{k:Nat}{n:ay}{v u:Zb}{q:Y4}{d:Y0}(h:QT w wr K e i v q d)(c:e[i]?=some n)(y:bO K n.name=some k)(A:((e.take i).map (·.aY)).contains n.aY=false){O:Obj}(B:Pa wr (aw K q (e.take i)++ax n.aY (ak K k)) u)
 (l:W.ownsRow w.heap.size 163 1 z (d.length+1)<|d++[u]) (t:(wr.alloc O).grownBy W v.ownBlock):QT w W K e (i+1) z (q++[k])<|d++[u]:=by
 have r:qB wr<|wr.alloc O:=qA;have D:=h.d.size;obtain⟨hi,g⟩:=VZ.1 c;have b:∀{C:YY} {x:Zb},Pa wr C x->Pa W C x:=λa=>by have:=DJ.below a r;exact⟨this.1,eU this.2 (aB r h.own) t<|by decide⟩
 refine⟨a_ (h.d.alloc h.d.size _) t (λj o=>(h.own.lt j o).1) (by simp;omega),by simpa using l,by simp[h.len],by simp[h.a],λx a=>?_,?_,λj x a=>?_⟩
 .obtain a|a:=V1.1 a
  .exact h.c x a
  simp at a;subst a;exact cx y
 .rw[h.go,VJ hi,g,s_ y A,V9,c];simp
 .by_cases o:j<d.length
  .rw[VU o]at a;have:=b<|h.each j x a;rw[WY (by rw[h.a,<-h.len];omega)];exact this
  have p:j=d.length:=by have:=bw a;simp at this;omega
  subst p;simp at a;subst a;rw[h.len,VX<|by simp[h.a],CB (i:=i) (by simpa using h.a) c];exact b B
def Uc{a:Y3}{ts ks:Y6}{wh:aA}{b:Y4}(h:bq K [] a=.ok b):jh K a ts wh ks=match bT K [] b a with
 |some e=>some e
 |none=>match bE (aw K b a) ts with
  |some e=>some e
  |none=>match aT (aw K b a) (aK wh) 3 with
   |some e=>some e
   |none=>bE (aw K b a) ks:=by
 unfold jh;rw[h]
def EI:∀{b:Y6}{e:Nat},bE F b=some e->e=2\/e=3
 |[],e,h=>by cases h
 |t::b,e,h=>by
  unfold bE at h;cases ht:bD F t with
  |error x=>rw[ht]at h;cases h;exact fB ht
  |ok a=>rw[ht]at h;exact EI h
def Ud{T:List (ay×Zb)}{rb:Nat}{wv u0 u1 u6 u7 u8 u9:Zb}{b:Nat}{cf:Y5}(h:jE w G b cf K)
 (C:w.heap[n]?=some (.cells #[u0,u1,B,z,wv,A,u6,u7,u8,u9] 111))(D:rH w rb r z)(hi:rH w rb T B)(Y:rH w rb t A)(hc:Mn w rb R wv)
 (x:r.length<=3/\∃p l,r=p::l/\p.1.aW=.nil/\∀q∈l,cY q.1.aW/\dX q.1.aW)(g:T.length<=1000/\∀p∈T,cY p.1.aW/\dX p.1.aW)(i:t.length<=1000/\∀p∈t,cY p.1.aW/\dX p.1.aW):
 Zc prog 84 #[.pointer<|some ⟨b,0,none⟩,.pointer<|some ⟨n,0,none⟩] w λe O=>e=.returned (.int .i64 ((jh K (r.map (·.1)) (T.map λp=>p.1.aW) R<|t.map λp=>p.1.aW).getD 0:Nat))/\qB w O:=by
 have b_:=lB C;obtain⟨sa,sc,rfl⟩:=D.1.slice;obtain⟨ia,ic,rfl⟩:=hi.1.slice;obtain⟨ka,kc,rfl⟩:=Y.1.slice;obtain⟨wa,rfl⟩:∃a,wv=.pointer a:=by
  obtain⟨_,rfl⟩|⟨F,_,H⟩:=hc
  .exact⟨_,rfl⟩
  obtain⟨a,rfl⟩:=H.ptr F.1;exact⟨_,rfl⟩
 have HN:=Z C;have HX:=Z h;have HS:=Z D;have a0:=Z hi;have HK:=Z Y;have HC:=Z hc;have bX:=Z x;have cT:=x.1;have cI:=g.1;have cR:=i.1;have bP:=Z g.2;have bU:=Z i.2;obtain⟨bl,(Q:Ze _)⟩:∃bl,r.map (·.1)=bl:=⟨_,rfl⟩;obtain⟨V,(ad:Ze _)⟩:∃V,T.map (λp=>p.1.aW)=V:=⟨_,rfl⟩;obtain⟨ks,(ac:Ze _)⟩:∃ks,t.map (λp=>p.1.aW)=ks:=⟨_,rfl⟩;rw[Q,ad,ac];generalize E:jh K bl V R ks=o;have HO:=Z E;have d:Ze (∀I O,o.getD 0=I->qB w O->(Zg.returned (.int .i64 (I:Int))=Zg.returned (.int .i64 ((o.getD 0:Nat):Int))/\qB w O)):=λI O N hb=>⟨by rw[N],hb⟩;obtain⟨S,c⟩:∃S:Zg->Za->Prop,S=λe O=>e=.returned (.int .i64 ((o.getD 0:Nat):Int))/\qB w O:=⟨_,rfl⟩
 rw[<-c];have P:Ze (∀I O,o.getD 0=I->qB w O->S (.returned<|.int .i64 (I:Int)) O):=λI O N hb=>by rw[c];exact d I O N hb
 obtain⟨i0,bh,cc,cd,ce⟩:=V5 wX;have y:Ze<|QT w w K bl 0 (.slice none 0 0) [] []:=⟨qW,VP _ _ _ _,rfl,rfl,λk Y=>(by cases Y),by simp;cases bq K [] bl<;>rfl,λj u hu=>(by simp at hu)⟩;clear C h D hi Y hc x g i E d c;go_in;go_wp2
 go_loopw [5,6] (λs5 s6 wr=>∃(i:Nat) (is:Y4) (us:Y0),i<=r.length/\s6=.int .i64 i/\Ze (QT w wr K bl i s5 is us)) (λ_ s6 _=>r.length-(Zk s6).toNat)
 exact⟨0,[],[],qO,rfl,y⟩
 case round=>
  generalize wr=M at*;obtain⟨i,is,us,hi,rfl,J⟩:=hrel;clear y;have C:=J.d;have ai:=C.size;obtain⟨va,vc,ca,cZ⟩:=cz J.own;subst ca;have c:=bB C b_ HN;have m2:=bC c 2;have m3:=bC c 3;have m4:=bC c 4;have m5:=bC c 5;simp at m2 m3 m4 m5;have L:=lB c;have U:=Z J.len;have cn:us.length<=3:=by have:=J.len;omega
  have cq:=Z c;clear c;by_cases b7:i<r.length
  .have y:r[i]?=some r[i]:=VE b7;have c:bl[i]?=some r[i].1:=by rw[<-Q,VO,y];rfl
   obtain⟨g,_,N,bf,e0,e1,_,_,_⟩:=(HS.below C).at y;cases N;generalize r[i]=p at*;obtain⟨E,pv⟩:=p;simp only at e0 e1 c;have d:=Z<|Db E.name<|HX.below C;have bY:=Z c;have cG:(i:Int)<(r.length:Int):=by omega
   have aZ:Ze<|bl.drop i=E::bl.drop (i+1):=by obtain⟨F,H⟩:=VZ.1 c;show _=_;rw[VJ F,H]
   have D:=Z C;have bG:Ze (∀(k:Nat) (x:ay),k<r.length->bl[k]?=some x->M.cell? ⟨g,k*5+1,none⟩=some (.string ⟨x.aY.toArray⟩)):=λk x Y hx=>by have F:r[k]?=some r[k]:=VE Y;obtain⟨W,_,N,_,_,H,_⟩:=(HS.below C).at F;cases N;rw[<-Q,VO,F]at hx;cases hx;exact H
   clear y c C;cases hta:bO K E.name with
   |none=>
    rw[hta]at d;simp only[iA]at d;have c:=Z<|P 2 M (by rw[<-HO];rw[jh,J.go,aZ,sZ hta];rfl) D;clear hta;go_wp2_with fail;apply qS d;go_wp2;exact c
   |some ti=>
    obtain⟨l,H,F,y⟩:=(HX.below D).d<|cx hta;rw[hta,y]at d;have b1:=Z hta;have c:=HX.ok.2 _<|dS<|cx hta;have bM:Ze (∀W,qB M W->_):=λW hW=>Fv ((HX.below D).c ti l _ H F) (HX.below D).lt c E.aY (.inl ⟨rfl,rfl⟩) hW;have bN:Ze (((bl.take i).map (·.aY)).contains E.aY=true->∀W,qB M W->S (.returned<|.int .i64 2) W):=λhc W hW=>P 2 W (by rw[<-HO];rw[jh,J.go,aZ,rE hta hc];rfl)<|D.trans<|hW.mono ai;have b3:=c.pos;have ci:=c.b;have az:=Z<|cH E.aY<|ak K ti;clear H F y hta c;go_wp2_with fail;apply qR d;intro w1 c;obtain rfl:=c.symm;clear d c;go_wp2
    go_loopw [8] (λs8 wr=>∃(k q:Nat),k<=i/\s8=.int .i64 k/\wr=M.drewN q/\Ze (∀(j:Nat) (x:ay),j<k->bl[j]?=some x->x.aY≠E.aY)) (λs8 _=>i-(Zk s8).toNat)
    exact⟨0,0,qO,rfl,rfl,λj x hj=>by omega⟩;obtain⟨k,q,Y,rfl,rfl,a4⟩:=hrel;by_cases b5:k<i
    .have F:k<bl.length:=by have:=Wd List.length Q;rw[VL]at this;omega
     have c:bl[k]?=some bl[k]:=VE F;have ek:=bG.o k _ (by omega) c;generalize bl[k]=x at*;have⟨cQ,ck⟩:(k:Int)<(i:Int)/\(k:Int)<(r.length:Int):=by omega
     go_upto_region 11 with fail
     by_cases d:x.aY=E.aY
     ·have X:=Z (λm=>bN (by
       rw[WM,VV]
       exact⟨x,Wn.2 ⟨k,by rw[V6,VG b5];exact c⟩,d⟩) _<|below_drewN (VM M.heap.size M) m)
      obtain⟨qa,qb⟩:=kj d;clear d c
      go_cut [60]from 39 to 60 (λy wx=>∃H:Nat,y=.bool true/\wx=M.drewN H)
      case first=>
       go_quiet (fail)
       all_goals go_wp2_with fail
       all_goals go_meet
       all_goals exact⟨_,rfl,by first|rfl|rw[XX]⟩
      obtain⟨H,rfl,rfl⟩:=hcut;go_wp2;exact X _
     obtain⟨qa,qb⟩:=ku d;have H:Ze (∀(j:Nat) (y:ay),j<k+1->bl[j]?=some y->y.aY≠E.aY):=λj y hj X=>by
      by_cases e:j=k
      .subst e;rw[c]at X;cases X;exact d
      exact a4 j y (by omega) X
     clear d c
     go_cut [60]from 39 to 60 (λd wx=>∃c:Nat,d=.bool false/\wx=M.drewN c)
     case first=>
      go_quiet (fail)
      all_goals go_wp2_with fail
      all_goals go_meet
      all_goals exact⟨_,rfl,by first|rfl|rw[XX]⟩
     obtain⟨c,rfl,rfl⟩:=hcut;go_wp2;go_roundw;exact⟨k+1,c,by omega,by go_num,rfl,H⟩;simp[Zk];omega
    obtain rfl:k=i:=by omega
    have bL:Ze<|((bl.take k).map (·.aY)).contains E.aY=false:=by
     show _=_;rw[Xm];intro h;rw[WM,VV]at h;obtain⟨x,hx,y⟩:=h;obtain⟨j,hj⟩:=Wn.1 hx;rw[V6]at hj;split at hj
     .exact a4 j x (by assumption) hj y
     cases hj
    have c:qB M<|M.drewN q:=below_drewN qW q;have X:=Z<|J.below c;have H:=m3;have d:=e1;have F:(M.drewN q).heap.size=M.heap.size:=rfl;have cS:=(VK<|c.block n L).trans m3;have cy:=(VK<|c.block g bf).trans e1;have cm:n<(M.drewN q).heap.size:=L;have cj:g<(M.drewN q).heap.size:=bf;have bK:=Z c;generalize M.drewN q=wq at*;clear c F H d;have cs:(aw K is<|bl.take k).length<=100:=by have:=(jj HX.ok (is:=is) (aN:=bl.take k) J.c).1;rw[Wl]at this;omega
    go_upto_if 62 with fail
    go_cut [9]from 18 to 83 (λs9 wx=>∃a m c,s9=.slice a m c/\wx=wq/\Ze (Pa wq (aw K is<|bl.take k)<|.slice a m c))
    case first=>
     by_cases h0:0<k
     .have H:(0:Int)<(k:Int):=by omega
      have d:k-1<us.length:=by rw[U];omega
      have hu:us[k-1]?=some us[k-1]:=VE d;generalize us[k-1]=u at*;obtain⟨gu,_,N,_,cA,eu⟩:=dA X.own hu;cases N;have y:=X.each (k-1) u hu;rw[show k-1+1=k by omega,VX<|J.a▸qZ]at y;obtain⟨ua,un,uc,rfl⟩:=aF y.2;have F:=Z y;have⟨cN,cO,cP⟩:(k:Int)-1=((k-1:Nat):Int)/\((k-1:Nat):Int)<(us.length:Int)/\(0:Int)<=((k-1:Nat):Int):=by omega
      clear y hu d;go_wp2;go_meet;exact⟨_,_,_,rfl,rfl,F⟩
     have y:¬(0:Int)<(k:Int):=by omega
     obtain rfl:k=0:=by omega
     have d:Ze<|Pa wq (aw K is<|bl.take 0)<|.slice none 0 0:=by
      have:aw K is (bl.take 0)=[]:=by rw[List.take_zero];cases is<;>rfl
      unfold Ze;rw[this];exact Pa.nil _
     go_wp2;go_meet;exact⟨_,_,_,rfl,rfl,d⟩
    obtain⟨ha,hm,hc,rfl,cb,HH⟩:=hcut;obtain rfl:=cb.symm;have F:=Z<|bM wq bK;go_wp2_with fail;refine F.mono ?_;rintro e w2⟨v2,rfl,bo⟩;have y:=Z bo;obtain⟨⟨a2,cg,c2,rfl⟩,-⟩:=bo;have bv:=y.2.1.size;have d:=Z<|NG (p:=(_,.slice ha hm hc)) (q:=(_,.slice a2 cg c2)) (DJ.below HH y.2.1) y.co (by omega) (by rw[az];omega) (by rw[az];omega);simp only at d;clear F;go_wp2_with fail;refine d.mono ?_;rintro e w3⟨v3,rfl,⟨a3,aH,c3,rfl⟩,ba,bd⟩;have H:=Z<|X.below<|y.2.1.trans<|ba.mono bv;have b2:Ze<|Pa w3 (aw K is (bl.take k)++ax E.aY (ak K ti))<|.slice a3 aH c3:=by show DJ _ _ _;rw[VH,az,<-Xr];exact bd
    have F:=H.own;have co:=H.d.size;clear ba bd d;go_wp2_with (at_builtin;refine VS _ rfl (.tmp 80) (.tmp 82) 169 rfl w.heap.size 163 i0 _ 1 24 underlying169 bh cc cd ce rfl (by decide) _ _ _ rfl (F.alloc _) ⟨w3.heap.size,0,none⟩ 1 1 [.slice a3 aH c3] rfl rfl ?d1 ?d2 ?d3 ?d4 ?d5 ?_);try (case d1=>exact cW w3 [.slice a3 aH c3] 163)
    try (case d2=>first|rfl|(intro x hx;simp at hx;subst hx;rfl))
    case d3=>unfold Zj;omega
    case d4=>omega
    try (case d5=>first|omega|(simp;omega))
    intro v' w6 d be aE;have bQ:=Z<|H.push bY b1 bL b2 d be;clear F d be aE;go_wp2;go_roundw;exact⟨k+1,_,_,by omega,by go_num,bQ⟩;simp[Zk];omega
  obtain rfl:i=r.length:=by omega
  have E:bl.length=r.length:=by rw[<-Q,VL]
  have H:bq K [] bl=.ok is:=by rw[J.go,Wt<|by omega];simp[bq,kU]
  have D:=J.a;have aq:=Z<|Uc (ts:=V) (ks:=ks) (wh:=R) H;have a5:Ze (∀j,I_<|aw K (is.take j)<|bl.take j):=λj=>by have h:=jj HX.ok (is:=is.take j) (aN:=bl.take j) λk Y=>J.c k<|Wr Y;exact⟨by have:=h.1;rw[Wl]at this;omega,h.2⟩
  have aC:Ze (∀(j:Nat) (u:Zb),us[j]?=some u->∀W,qB M W->∀(x:aA) (xv:Zb) (y:Int),cY x->dX x->0<=y/\y<=3->bz w rb x xv->Zc prog 79 #[xv,u,.int .i64 y] W λe O=>∃v,e=.returned v/\(v=.int .i64 ((aT (aw K (is.take<|j+1)<|bl.take<|j+1) x y).getD 0:Nat)/\qB W O)):=λj u hu W hW x xv y d F hw hr=>by refine qR (EO (a5<|j+1) d F hw (hr.below<|J.d.trans<|hW.mono ai)<|(J.each j u hu).c.below hW) ?_;intro O h;exact⟨_,rfl,rfl,h⟩
  obtain⟨p0,l0,g,bn,c⟩:=bX.2;have bs:1<=r.length:=by rw[g];simp
  have a6:Ze<|bT K [] is bl=bT K (aw K (is.take 1)<|bl.take 1) (is.drop 1) (bl.drop 1):=by
   have e1:is[0]?=some (is[0]'(by omega)):=VE _;have e2:bl[0]?=some p0.1:=by rw[<-Q,g];rfl
   have h:=qG (db:=K) (ab:=[]) e1 e2<|bn▸oH _;have h2:=jk (db:=K) e1 e2;simp only[List.take_zero,WG,Wz,XC]at h h2;show _=_;rw[h,h2];rfl
  have X:Ze (∀(j:Nat) (q:ay×Zb),1<=j->r[j]?=some q->cY q.1.aW/\dX q.1.aW):=λj q hj hq=>by
   rw[g]at hq;cases j with
   |zero=>omega
   |succ j=>exact c q<|VY<|by simpa using hq
  have bZ:=Z E;have aa:=Z D;have cp:=Z H;clear H g bn c E D C;go_wp2
  go_loopw [10] (λaJ wr=>∃j:Nat,1<=j/\j<=r.length/\aJ=.int .i64 j/\Ze (qB M wr/\bT K [] is bl=bT K (aw K (is.take j)<|bl.take j) (is.drop j) (bl.drop j))) (λaJ _=>r.length-(Zk aJ).toNat)
  exact⟨1,qZ,bs,rfl,qW,a6⟩;obtain⟨j,b4,hj,rfl,HJ⟩:=hrel;obtain⟨c,H⟩:=HJ.o;have bw:=c.size;have k2:=(VK<|c.block n L).trans m2;have k3:=(VK<|c.block n L).trans m3;have k4:=(VK<|c.block n L).trans m4;have k5:=(VK<|c.block n L).trans m5;have aD:n<wr.heap.size:=by omega
  have D:=J.d.trans<|c.mono ai;by_cases E:j<r.length
  .have af:r[j]?=some r[j]:=VE E;obtain⟨d,F⟩:=X.o j _ b4 af;have C:bl[j]?=some r[j].1:=by rw[<-Q,VO,af];rfl
   have ae:is[j]?=some (is[j]'(aa▸E)):=VE _;have ah:us[j]?=some (us[j]'(U▸E)):=VE _;obtain⟨g,_,N,cD,_,_,_,e3,_⟩:=(HS.below D).at af;cases N;have ag:=HS.2 _<|VQ E;generalize r[j]=p at*;generalize is[j]'(aa▸E)=tj at*;generalize us[j]'(U▸E)=u at*;obtain⟨it,pv⟩:=p;simp only at e3 d F C ag;obtain⟨pa,rfl⟩:=ag.ptr d.1;obtain⟨gu,_,N,_,cB,eu⟩:=dA (aB c J.own) ah;cases N;have bg:=J.each j u ah;obtain⟨ua,un,uc,rfl⟩:=aF bg.2;have aS:=Z<|aC j _ ah wr.drew c.drew it.aW (.pointer<|some pa) 3 d F (by decide) ag;have a7:=Z<|jk (db:=K) ae C;have bV:=Z λe h=>uD (db:=K) (ab:=aw K (is.take j)<|bl.take j) (e:=e) ae C h;have bW:=Z λh=>qG (db:=K) (ab:=aw K (is.take j)<|bl.take j) ae C h;have aX:=Z<|lg d;rw[a7]at aS;generalize bi:aT (aw K (is.take j) (bl.take j)++ax it.aY (ak K tj)) it.aW 3=oe at*;have ar:=Z bi;have cJ:(j:Int)<(r.length:Int):=by omega
   have cM:(j:Int)<(us.length:Int):=by have:=U.o;omega
   have bI:=Z c;have a8:=Z H;clear bi d F ag ae ah C af bg c H D;go_upto_region 21 with fail
   go_cut [11]from 84 to 108 (λch wx=>ch=.int .i64 ((oe.getD 0:Nat):Int)/\Ze (qB wr wx))
   case first=>
    go_region_law (refine eN rfl (.tmp 100) (.tmp 104) (.const<|.int .i64 3) rfl pI rfl rfl rfl aS ?_
                   rintro v4 w4⟨rfl,(C:Ze _)⟩
                   skip)
    all_goals go_wp2_with fail
    all_goals go_meet
    all_goals exact⟨rfl,qW.drew.trans C⟩
   obtain⟨rfl,bH⟩:=hcut;have C:=Z<|bI.trans<|bH.mono bw;cases hoe2:oe with
   |some I=>
    have ct:(((I:Nat):Int) != 0)=true:=by have:=fu<|ar.o.trans hoe2;simp;omega
    have HE:=Z<|P.o I wc (by rw[<-HO.o,aq.o,a8.o,bV.o I (by rw[aX.o];exact ar.o.trans hoe2)];rfl)<|J.o.d.trans<|C.o.mono ai;clear hoe2;simp only[W8];go_wp2;exact HE.o
   |none=>
    have bR:Ze<|Zd M.heap.size M wc/\bT K [] is bl=bT K (aw K (is.take<|j+1)<|bl.take<|j+1) (is.drop<|j+1) (bl.drop<|j+1):=⟨C.o,by rw[a8.o,bW.o (by rw[aX.o];exact ar.o.trans hoe2),a7.o]⟩;clear hoe2;simp only[W7];go_wp2;go_roundw;exact⟨j+1,by omega,by omega,by go_num,bR⟩;simp[Zk];omega
  obtain rfl:j=r.length:=by omega
  generalize wr=wp at*;have b6:us.length-1<us.length:=by have:=U.o;omega
  have g:us[us.length-1]?=some us[us.length-1]:=VE b6;generalize us[us.length-1]=u at*;obtain⟨gu,_,N,_,cC,eu⟩:=dA (aB c J.own) g;cases N;obtain⟨ua,un,uc,rfl⟩:=aF (J.each _ u g).2;have bt:us.length-1+1=r.length:=by have:=U.o;omega
  have bu:is.take r.length=is:=VX<|aa▸qZ;have al:bl.take r.length=bl:=VX<|bZ▸qZ;have HW:Ze (∀W,qB wp W->∀(x:aA) (xv:Zb) (y:Int),cY x->dX x->0<=y/\y<=3->bz w rb x xv->Zc prog 79 #[xv,.slice ua un uc,.int .i64 y] W λe O=>∃v,e=.returned v/\(v=.int .i64 ((aT (aw K is bl) x y).getD 0:Nat)/\qB W O)):=λW hW x xv y h1 h2 h3 h4=>by have:=aC.o _ _ g W (c.trans<|hW.mono bw) x xv y h1 h2 h3 h4;rw[bt,bu,al]at this;exact this
  have a1:Ze (o=match bE (aw K is bl) V with
   |some e=>some e
   |none=>match aT (aw K is bl) (aK R) 3 with
    |some e=>some e
    |none=>bE (aw K is bl) ks):=by
   show _=_;rw[<-HO,aq,H,Wt<|aa▸qZ];rfl
  generalize aw K is bl=C at*;have⟨cU,cV,cX⟩:(us.length:Int)-1=((us.length-1:Nat):Int)/\((us.length-1:Nat):Int)<(us.length:Int)/\(0:Int)<=((us.length-1:Nat):Int):=by omega
  have aQ:=Z D;have bD:=D.size;clear g bt bu al c H D aC a5 aq a6 X HJ m2 m3 m4 m5;go_wp2
  go_loopw [13] (λaL wr=>∃j:Nat,j<=T.length/\aL=.int .i64 j/\Ze (qB wp wr/\bE C V=bE C (V.drop j))) (λaL _=>T.length-(Zk aL).toNat)
  exact⟨0,qO,rfl,qW,rfl⟩;obtain⟨j,hj,rfl,HJ⟩:=hrel;obtain⟨c,H⟩:=HJ.o;have am:=c.size;have q2:=(VK<|c.block n aD).trans k2;have q4:=(VK<|c.block n aD).trans k4;have q5:=(VK<|c.block n aD).trans k5;have b9:n<wr.heap.size:=by omega
  have D:=aQ.trans<|c.mono bD;by_cases E:j<T.length
  ·have bp:T[j]?=some T[j]:=VE E;obtain⟨d,F⟩:=bP.o _<|VQ E;obtain⟨g,_,N,cE,_,_,_,e3,_⟩:=(a0.below D).at bp;cases N;have X:=a0.2 _<|VQ E;have ao:Ze<|V.drop j=T[j].1.aW::V.drop (j+1):=by
    have:j<V.length:=by rw[<-ad,VL];exact E
    show _=_;rw[VJ this]
    congr 1
    simp[<-ad.o]
   generalize T[j]=p at*;obtain⟨it,pv⟩:=p;simp only at e3 d F X ao;obtain⟨pa,rfl⟩:=X.ptr d.1;have aU:=Z<|HW wr c it.aW (.pointer<|some pa) 0 d F (by decide) X;generalize bj:aT C it.aW 0=oe at*;have au:=Z bj;have cK:(j:Int)<(T.length:Int):=by omega
   have bJ:=Z c;have a9:=Z H;clear bj d F X bp c H D;go_wp2_with fail;refine aU.mono ?_;rintro e w4⟨v4,rfl,rfl,bb⟩;have X:=Z<|bJ.trans<|bb.mono am;clear bb aU;cases hoe2:oe with
   |some I=>
    have cu:((I:Int) != 0)=true:=by have:=fu<|au.trans hoe2;simp;omega
    have HE:=Z<|P I w4 (by rw[a1,a9,ao,zA<|au.trans hoe2];rfl)<|aQ.trans<|X.mono bD;clear hoe2;simp only[W8];go_wp2;exact HE
   |none=>
    have bS:Ze<|qB wp w4/\bE C V=bE C (V.drop<|j+1):=⟨X,by rw[a9,ao,zy<|au.trans hoe2]⟩;clear hoe2;simp only[W7];go_wp2;go_roundw;exact⟨j+1,by omega,by go_num,bS⟩;simp[Zk];omega
  obtain rfl:j=T.length:=by omega
  have a2:Ze (o=match aT C (aK R) 3 with
   |some e=>some e
   |none=>bE C ks):=by
   show _=_;rw[a1,H,Wt (by rw[<-ad,VL];exact qZ)];rfl
  generalize wr=wq at*;have aR:=Z D;have bF:=D.size;have aO:=Z c;clear c H D HJ
  go_upto_if 141 with fail
  go_cut [] (λwx=>Ze<|qB wq wx/\aT C (aK R) 3=none)
  case first=>
   obtain⟨hw,aG⟩|⟨d,F,X⟩:=HC.o
   .cases aG;have g:Ze<|aT C (aK R) 3=none:=by rw[Ze,hw];exact oH _
    clear hw;go_wp2;go_meet;exact⟨qW,g⟩
   obtain⟨cr,aG⟩:=X.ptr d.1;cases aG;have aV:=Z<|HW wq aO R (.pointer<|some cr) 3 d F (by decide) X;have aY:=Z<|lg d;generalize bk:aT C R 3=oe at*;have g:=Z bk;clear d F X bk;go_wp2_with fail;refine aV.mono ?_;rintro e w4⟨v4,rfl,rfl,bc⟩;have X:=Z bc;clear bc aV;cases hoe2:oe with
   |some I=>
    have cv:((I:Int) != 0)=true:=by have:=fu<|g.trans hoe2;simp;omega
    have HE:=Z<|P I w4 (by rw[a2,aY,g,hoe2];rfl)<|aR.trans<|X.mono bF;clear hoe2;simp only[W8];go_wp2;exact HE
   |none=>
    have b0:Ze<|aT C (aK R) 3=none:=by rw[Ze,aY];exact g.trans hoe2
    clear hoe2;simp only[W7];go_wp2;go_meet;exact⟨X,b0⟩
  obtain⟨g,X⟩:=hcut.o;have a3:Ze<|o=bE C ks:=by show _=_;rw[a2,X]
  have c0:=g.size;have r5:=(VK<|g.block n b9).trans q5;have b8:n<wc.heap.size:=by omega
  have an:=Z<|aR.trans<|g.mono bF;have aj:=Z<|aO.trans<|g.mono am;clear g X hcut q2 q4 q5 k2 k3 k4 k5;go_wp2
  go_loopw [16] (λaM wr=>∃j:Nat,j<=t.length/\aM=.int .i64 j/\Ze (qB wc wr/\bE C ks=bE C (ks.drop j))) (λaM _=>t.length-(Zk aM).toNat)
  exact⟨0,qO,rfl,qW,rfl⟩;obtain⟨j,hj,rfl,HJ⟩:=hrel;obtain⟨c,H⟩:=HJ.o;have bx:=c.size;have q5:=(VK<|c.block n b8).trans r5;have cl:n<wr.heap.size:=by omega
  have bA:=an.size;have D:=an.trans<|c.mono bA;by_cases E:j<t.length
  ·have br:t[j]?=some t[j]:=VE E;obtain⟨d,F⟩:=bU.o _<|VQ E;obtain⟨g,_,N,cF,_,_,_,e3,_⟩:=(HK.below D).at br;cases N;have X:=HK.2 _<|VQ E;have ap:Ze<|ks.drop j=t[j].1.aW::ks.drop (j+1):=by
    have:j<ks.length:=by rw[<-ac,VL];exact E
    show _=_;rw[VJ this]
    congr 1
    simp[<-ac.o]
   generalize t[j]=p at*;obtain⟨it,pv⟩:=p;simp only at e3 d F X ap;obtain⟨pa,rfl⟩:=X.ptr d.1;have aW:=Z<|HW wr (aj.trans<|c.mono aj.size) it.aW (.pointer<|some pa) 0 d F (by decide) X;generalize bm:aT C it.aW 0=oe at*;have av:=Z bm;have cL:(j:Int)<(t.length:Int):=by omega
   have aP:=Z c;have a_:=Z H;clear bm d F X br c H D;go_wp2_with fail;refine aW.mono ?_;rintro e X⟨v4,rfl,rfl,F⟩;have d:=Z<|aP.trans<|F.mono bx;clear F aW;cases hoe2:oe with
   |some I=>
    have cw:((I:Int) != 0)=true:=by have:=fu<|av.trans hoe2;simp;omega
    have F:=Z<|P I X (by rw[a3,a_,ap,zA<|av.trans hoe2];rfl)<|an.trans<|d.mono bA;clear hoe2;simp only[W8];go_wp2;exact F
   |none=>
    have F:Ze<|qB wc X/\bE C ks=bE C (ks.drop<|j+1):=⟨d,by rw[a_,ap,zy<|av.trans hoe2]⟩;clear hoe2;simp only[W7];go_wp2;go_roundw;exact⟨j+1,by omega,by go_num,F⟩;simp[Zk];omega
  obtain rfl:j=t.length:=by omega
  have g:=Z<|P 0 wr (by rw[a3,H,Wt (by rw[<-ac,VL];exact qZ)];rfl) D;clear c H D HJ;go_wp2;exact g
abbrev GF:Obj:=.cells #[qN] 105
def jE.new(w:Za):jE (w.alloc GF) (N8 w.heap.size) w.heap.size [] []:=
 ⟨λk hk=>by cases hk;simp,rfl,⟨qN,aM _ _,nG,λk hk=>(by cases hk)⟩,rfl,λi l t a=>(by simp at a),λi j l m _ a=>(by simp at a),Gt⟩
abbrev BB(b rb:Nat):Obj:=.cells #[qP b,qP rb] 70
def sQ(s:Nat):Pr:=⟨s+2,s,s+1,N8 s,N8<|s+1,[],[],[],[]⟩
def v_(w:Za)(o:Obj):(w.alloc o).heap.size=w.heap.size+1:=by simp
def Nw:(prog.info? 71).map (λi=>(i.zero,i.size,i.bytes))=some (some<|.pointer none,1,8):=by kernel_rfl
