import Derived.BigQuiet
import Derived.Test.YtojdpjpldokjmaaGreatDoorC07
set_option maxHeartbeats 0
set_option maxRecDepth 100000
set_option linter.all false
namespace Go.Proofs.YtojdpjpldokjmaaGreatDoor
open Go.Deep Go.RowKit Tryz
open Go renaming World->Za,Value->Zb,Calls->Zc,TypeId->Zf,Ending->Zg,results->Zh,maxLen->Zj
open RowKit renaming Below->Zd,Hid->Ze,intOf->Zk
variable{W w x:World}{i j k n:Nat}{F:YY}{X Y:YX}{R S:aA}{G H:Y7}{A B u z:Value}{I J:YW}{M a:Int}{K:aI}{N:List YW}
def br.l{v:Zb}(h:br w n 3 lS F v){c:ah}(b:F[i]?=some c):∃g cap,v=qL g F.length cap/\g<n /\
 w.cell? ⟨g,i*3,none⟩=some (qT c.src)/\w.cell? ⟨g,i*3+1,none⟩=some (qT c.name)/\w.cell? ⟨g,i*3+2,none⟩=some (qI c.type):=by
 obtain⟨a,cap,rfl,e⟩:=h;obtain⟨g,rfl,j,d⟩:=e (by rintro rfl;simp at b);exact⟨g,cap,rfl,j,d i c b 0 _ rfl,d i c b 1 _ rfl,d i c b 2 _ rfl⟩
def kj(h:X=Y):(X==Y)=true/\(X != Y)=false:=by subst h;simp
def ku(h:¬X=Y):(X==Y)=false/\(X != Y)=true:=by simp[h]
def fI:Option Nat->Int
 |none=>-1
 |some j=>j
def vR(w wr:Za)(p:k_)(ab:YY)(i:Nat)(f:Option Nat):Prop:=eF p.src p.name (ab.drop i) i f=eE ab p.src p.name/\(∀j,f=some j->j<i)/\qB w wr
def below_drewN(h:Zd n w W)(m:Nat):Zd n w<|W.drewN m:=⟨h.os,h.tape,h.output,h.size,h.block⟩
def vR.next{wr:Za}{p:k_}{f:Option Nat}{c:ah}(h:vR w wr p F i f)(g:F.drop i=c::F.drop (i+1))(e:c.is p.src p.name=false){o:Obj}(m:Nat):vR w ((wr.alloc o).drewN m) p F (i+1) f:=by obtain⟨a,d,b⟩:=h;refine⟨?_,λj k=>Nat.lt_succ_of_lt<|d j k,below_drewN (b.alloc b.size _) m⟩;rw[g,eF.eq_def]at a;simp only[e]at a;exact a
def vR.hit{wr:Za}{p:k_}{c:ah}(h:vR w wr p F i none)(e:F.drop i=c::F.drop (i+1))(d:c.is p.src p.name=true){o:Obj}(m:Nat):vR w ((wr.alloc o).drewN m) p F (i+1)<|some i:=by obtain⟨a,k,b⟩:=h;refine⟨?_,λj g=>by cases g;omega,below_drewN (b.alloc b.size _) m⟩;rw[e,eF,d]at a;exact a
def vR.c{wr:Za}{p:k_}{c:ah}(h:vR w wr p F i<|some j)(d:F.drop i=c::F.drop (i+1))(b:c.is p.src p.name=true):eE F p.src p.name=none:=by obtain⟨a,e,g⟩:=h;rw[d,eF,b]at a;exact a.symm
def Rx{a1 a2:Nat}{p:k_}{l r:aA}(M:p.op=1):Ca 286<|.node a1 a2 p l r:=by
 intro ab b y P w v ak T ht hl;obtain⟨n,vl,vr,rfl,hn,N,hL,hR⟩:=ht;have aj:=T.lt;have Y:n<w.heap.size:=by omega
 have HB:=Z N;have C:=Z T;have HL:=Z hl;obtain⟨cv,sv,(O:Ze _),G⟩:∃cv sv,w.heap[y]?=some (.cells #[cv,sv] 362)/\br w y 3 lS ab cv:=by obtain⟨_,_,_,_,_,cv,sv,c,g,_⟩:=T;exact⟨cv,sv,c,g⟩
 have E:=Z G;have V:∃a cap,cv=.slice a ab.length cap:=by obtain⟨a,cap,h,_⟩:=G;exact⟨a,cap,h⟩
 obtain⟨ca,cc,rfl⟩:=V;have b0:=bC O;have HE:=Z λz Q i (k:jM z y Q ab b)=>J9 ⟨1,aE,i⟩ k (by rw[eH]at hl;omega);have HT:Ze<|bD ab (.node a1 a2 p l r)=match eE ab p.src p.name with|some i=>.ok (ft ab i)|none=>.error 2:=by unfold Ze;rw[bD,VF<|by omega,VG M];cases eE ab p.src p.name<;>rfl
 have HG:Ze<|cy ab b.length (.node a1 a2 p l r)=[⟨1,aE,mq ab p⟩]:=by unfold Ze;rw[cy,VF<|by omega,VG M]
 have u:Ze (∀(o:aV Int) (e:Zg) (z:Za),bD ab (.node a1 a2 p l r)=o->e=.returned (ou o)->KP P w z->(∃d,jM z y P ab d/\d.length<=b.length+2/\∀K,o=.ok K->d=b++[⟨1,aE,mq ab p⟩])->i6 w y P ab b (.node a1 a2 p l r) e z):=by intro o e z g x hk ⟨d,M,A,q⟩;refine⟨by rw[g];exact x,hk,d,M,by rw[eH];omega,λK c=>?_⟩;rw[HG];exact q K (by rw[<-g];exact c)
 have t:Ze (eE ab p.src p.name=none->∀z,qB w z->i6 w y P ab b (.node a1 a2 p l r) (.returned<|.tuple #[qI 0,qI 2]) z):=by intro hn z N;refine u (.error 2) _ _ (by rw[HT,hn]) rfl (KP.below N λk hk=>(C.1 k hk).1) ⟨b,(C.below N).back C.2.1,by omega,λK h=>by cases h⟩
 generalize i6 w y P ab b (.node a1 a2 p l r)=ac at*;go_in;go_wp2
 go_loopw [6,14] (λs6 aa wr=>∃(i:Nat) (f:Option Nat),i<=ab.length/\aa=qI i/\s6=qI (fI f)/\Ze (vR w wr p ab i f)) (λ_ a _=>ab.length-(Zk a).toNat)
 exact⟨0,none,qO,rfl,rfl,rfl,λj h=>(by cases h),qW⟩;obtain⟨i,f,hi,rfl,rfl,q⟩:=hrel;have ai:=q.2.2.size;by_cases I:i<ab.length
 .have H:ab[i]?=some ab[i]:=VE I;have x:Ze<|ab.drop i=ab[i]::ab.drop (i+1):=VJ I;generalize ab[i]=c at*;obtain⟨g,cap,U,hg,e0,e1,e2⟩:=(E.aL λk hk=>q.2.2.block k<|by omega).l H;cases U;have W:g<wr.heap.size:=by omega
  have B:=bB q.2.2 Y HB;have d4:=bC B;have X:=lB B;by_cases A:c.name=p.name
  .obtain⟨qa,qb⟩:=kj A;by_cases D:p.src=[]
   .obtain⟨S,rb⟩:=kj D;have F:=Z A;have J:=Z D;cases hf:f with
    |none=>
     subst hf;go_wp2
     go_quiet (fail)
     go_wp2;go_roundw;exact⟨i+1,some i,by omega,by go_num,rfl,q.hit x (by unfold ah.is;simp[F.o,J.o]) nq⟩;simp[Zk];omega
    |some j=>
     subst hf;have R:0<=fI (some j):=by simp[fI]
     have L:=Z<|q.c x (by unfold ah.is;simp[F.o,J.o]);go_wp2
     go_quiet (fail)
     go_wp2;exact t L _<|below_drewN (q.2.2.alloc q.2.2.size _) nq
   obtain⟨ra,rb⟩:=ku D;by_cases F:c.src=p.src
   .obtain⟨sa,sb⟩:=kj F;have J:=Z A;have L:=Z D;have R:=Z F;cases hf:f with
    |none=>
     subst hf;go_wp2
     go_quiet (fail)
     go_wp2;go_roundw;exact⟨i+1,some i,by omega,by go_num,rfl,q.hit x (by unfold ah.is;simp[J.o,L.o,R.o]) nq⟩;simp[Zk];omega
    |some j=>
     subst hf;have hj:0<=fI (some j):=by simp[fI]
     have S:=Z<|q.c x (by unfold ah.is;simp[J.o,L.o,R.o]);go_wp2
     go_quiet (fail)
     go_wp2;exact t S _<|below_drewN (q.2.2.alloc q.2.2.size _) nq
   obtain⟨S,sb⟩:=ku F;have J:=Z A;have L:=Z D;have R:=Z F;go_wp2
   go_quiet (fail)
   go_wp2;go_roundw;exact⟨i+1,f,by omega,by go_num,rfl,q.next x (by unfold ah.is;simp[J.o,L.o,R.o]) nq⟩;simp[Zk];omega
  obtain⟨F,J⟩:=ku A;have D:=Z A;go_wp2
  go_quiet (fail)
  go_wp2;go_roundw;exact⟨i+1,f,by omega,by go_num,rfl,q.next x (by unfold ah.is;simp[D.o]) nq⟩;simp[Zk];omega
 have x:f=eE ab p.src p.name:=by have:=q.1;rw[Wo<|by omega]at this;exact this
 cases hf:f with
 |none=>
  subst hf;have c:=Z x.symm;clear x;have g:fI none<0:=by simp[fI]
  go_wp2;exact t c _ q.2.2
 |some j=>
  subst hf;have HN:=Z x.symm;have hj:¬fI (some j)<0:=by simp[fI]
  have W:j<ab.length:=by have:=q.2.1 j rfl;omega
  have F:=Z<|q.2.2;have B:ab[j]?=some ab[j]:=VE W;have S:Ze<|ft ab j=ab[j].type:=by rw[Ze,ft,B]
  generalize ab[j]=c at*;obtain⟨g,cap,he,hg,_,_,_⟩:=E.l B;cases he;have A:=Z<|HE wr _ j<|C.below F;unfold IK at A;simp only[aE]at A;simp only[fI]at hj ⊢;go_wp2_with fail;apply qR A;rintro L⟨U,X⟩;have hK:KP P wr L:=X.mono λk hk=>.inl hk;have D:=Z<|U.back C.2.1;have R:=Z<|(KP.below F λk hk=>(C.1 k hk).1).trans hK;obtain⟨ag,am,J,H⟩:∃cv sv,L.heap[y]?=some (.cells #[cv,sv] 362)/\br L y 3 lS ab cv:=by obtain⟨_,_,_,_,_,cv,sv,h5,h6,_⟩:=D.o;exact⟨cv,sv,h5,h6⟩
  obtain⟨g2,ad,rfl,al,_,_,f2⟩:=H.l B;have x0:=bC J;have ae:y<L.heap.size:=lB J;have af:g2<L.heap.size:=by omega
  go_wp2_with fail;refine u (.ok c.type) _ _ (by rw[HT,HN,<-S]) rfl R ⟨_,D,by simp,λK _=>?_⟩;have:mq ab p=j:=by rw[mq,HN];rfl
  rw[this];rfl
def TL{p:k_}(e:p.op=0):Ca 251<|.node k i p R S:=by
 intro ab b A P w v r g y t;obtain⟨n,F,G,rfl,u,(HB:Ze _),C,D⟩:=y;have q:=g.lt;have x:n<w.heap.size:=by omega
 have c0:=bC HB 0;have c1:=bC HB;simp at c0;rw[e]at c0;have o:Ze<|bD ab (.node k i p R S)=.ok p.aC:=by rw[Ze,bD,VG e]
 have l:Ze<|cy ab b.length (.node k i p R S)=[⟨0,mQ p,0⟩]:=by rw[Ze,cy,VG e]
 have j:=Z<|J9 ⟨0,mQ p,0⟩ g (by rw[eH]at t;omega);unfold IK mQ at j;unfold i6;rw[o];simp only[ou];go_in;go_wp2_with fail;apply qR j;rintro H⟨(d:Ze _),(a:Ze _)⟩;have c:=a.q ((Z g.2.1) n u) HB;have B:=bC c;have z:=lB c;go_wp2;exact VI (by simp[Zh,results251,go_sem]) rfl ⟨rfl,a,_,d,by rw[eH];simp;omega,λE h=>by rw[l];rfl⟩
def GB{w:Za}{cb:Nat}{P:Y7}{ab:YY}{code:List cQ}{t:aA}:∃a b:Int,∀e d,i6 w cb P ab code t e d↔e=.returned (.tuple #[qI a,qI b])/\i6 w cb P ab code t (.returned<|.tuple #[qI a,qI b]) d:=by
 obtain⟨a,b,h⟩:=tF<|bD ab t;refine⟨a,b,λe d=>⟨λc=>?_,λc=>?_⟩⟩
 .have g:=c.1;rw[h]at g;subst g;exact⟨rfl,c⟩
 rw[c.1];exact c.2
def wi:∀{t:aA},ib t->Ca 251 t
 |.nil,hw=>absurd hw id
 |.node h i p l r,hw=>by
  obtain⟨B,_,x,H⟩:=hw;by_cases K:p.op=0
  .exact TL K
  intro ab a g P w v j y z C;obtain⟨n,o,F⟩:∃n,v=qP n/\n<g/\w.cell? ⟨n,0,none⟩=some (qI p.op):=by obtain⟨n,d,D,rfl,L,F,_⟩:=z;exact⟨n,rfl,L,by have:=bC F 0;simp at this;exact this⟩
  obtain⟨L,c0⟩:=F;have R:=y.lt;have S:n<w.heap.size:=by omega
  obtain⟨xa,xb,c⟩:=GB (w:=w) (cb:=g) (P:=P) (ab:=ab) (code:=a) (t:=.node h i p l r);by_cases E:p.op=1
  .have J:=Z<|Rx (a1:=h) (a2:=i) (l:=l) (r:=r) E ab a g P w v j y z C;subst o;rw[E]at c0;generalize i6 w g P ab a (.node h i p l r)=G at*;have I:=Z c;go_in;go_wp2_with refine J.mono ?_;intro e N M;obtain⟨rfl,D⟩:=(I e N).1 M;have d:=Z D;go_wp2;exact d
  have b:∀k:Nat,p.op≠k->((p.op:Int)==(k:Int))=false:=λk hk=>by simp;omega
  have V:=b 0 K;have W:=b 1 E;have q:=wi<|H (by omega);by_cases A:p.op=17
  .have D:=wi<|x (by omega);have I:=Z<|J4 (a1:=h) (a2:=i) (p:=p) (by omega) B q D ab a g P w v j y z C;rw[show p.op-15=2 by omega]at I;subst o;rw[A]at c0;generalize i6 w g P ab a (.node h i p l r)=J at*;have M:=Z c;go_in;go_wp2_with refine I.mono ?_;intro e O N;obtain⟨rfl,G⟩:=(M e O).1 N;have d:=Z G;go_wp2;exact d
  by_cases u:p.op=18
  .have D:=wi<|x (by omega);have I:=Z<|J4 (a1:=h) (a2:=i) (p:=p) (by omega) B q D ab a g P w v j y z C;rw[show p.op-15=3 by omega]at I;subst o;rw[u]at c0;generalize i6 w g P ab a (.node h i p l r)=J at*;have M:=Z c;go_in;go_wp2_with refine I.mono ?_;intro e O N;obtain⟨rfl,G⟩:=(M e O).1 N;have d:=Z G;go_wp2;exact d
  by_cases Q:p.op<=5
  .have M:=Z<|TM (a1:=h) (a2:=i) (p:=p) (r:=r) (by omega) Q q ab a g P w v j y z C;subst o;generalize i6 w g P ab a (.node h i p l r)=I at*;have J:=Z c;have d:p.op=2\/p.op=3\/p.op=4\/p.op=5:=by omega
   obtain d|d|d|d:=d;all_goals
    rw[d]at c0;go_in;go_wp2_with refine M.mono ?_;intro e O N;obtain⟨rfl,G⟩:=(J e O).1 N;have D:=Z G;go_wp2;exact D
  have D:=wi<|x (by omega);have M:=Z<|TN (a1:=h) (a2:=i) (p:=p) (by omega) (by omega) q D ab a g P w v j y z C;have N:=b 17 A;have O:=b 18 u;have X:=b 2 (by omega);have Y:=b 3 (by omega);have g4:=b 4 (by omega);have g5:=b 5 (by omega);subst o;generalize i6 w g P ab a (.node h i p l r)=I at*;have J:=Z c;go_in;go_wp2_with refine M.mono ?_;intro e U T;obtain⟨rfl,G⟩:=(J e U).1 T;have d:=Z G;go_wp2;exact d
def nz{α:Type}(f:α->Y0)(n:Nat)(a:∀x,(f x).length=n):∀(b:List α)(i j:Nat)(x:α)(u:Zb),b[i]?=some x->(f x)[j]?=some u->(b.flatMap f)[i*n+j]?=some u
 |[],i,j,x,u,h,_=>by simp at h
 |y::ys,i,j,x,u,h,hu=>by
  rw[Xc];cases i with
  |zero=>
   simp at h;subst h;have:j<(f y).length:=by
    obtain h|h:=Wx j (f y).length
    .exact h
    rw[V7 h]at hu;cases hu
   rw[Yy,XC,VU this];exact hu
  |succ i=>
   simp at h;have:=nz f n a ys i j x u h hu;rw[VW (by rw[a,Xp];omega),a];rw[show(i+1)*n+j-n=i*n+j by rw[Xp];omega];exact this
def c7{α:Type}{base:Nat}{e:Zf}{f:α->Y0}(p:∀x,(f x).length=n){b:List α}{v:Zb}(h:w.ownsRow base e n v b.length<|b.flatMap f)(A:w.heap.size<=k):br w k n f b v:=by
 obtain⟨rfl,d⟩|⟨g,cap,c,rfl,y,l,z,B,hs,q⟩:=h.2
 .exact⟨none,0,by rw[d],λa=>absurd (V3.1 d) a⟩
 refine⟨_,cap,rfl,λC=>⟨g,rfl,by have:=lB l;omega,λi x t j u r=>?_⟩⟩;have a:=nz f n p b i j x u t r;rw[<-q]at a;have o:c[i*n+j]?=some u:=by
  rw[V6]at a;split at a
  .simpa using a
  cases a
 rw[bC l];exact o
def iE{α:Type}(w:Za)(Q:Y7)(n:Nat)(f:α->Y0)(xs:List α)(v:Zb):Prop:=
 ∃a cap,v=.slice a xs.length cap/\(xs≠[]->∃g,a=some ⟨g,0,none⟩/\Q g/\∀i c,xs[i]?=some c->∀j u,(f c)[j]?=some u->w.cell? ⟨g,i*n+j,none⟩=some u)
def iE.aL{α:Type}{w':Za}{f:α->Y0}{d:List α}{v:Zb}(h:iE w G n f d v)(p:∀k,G k->w'.heap[k]?=w.heap[k]?):iE w' G n f d v:=by obtain⟨a,cap,rfl,e⟩:=h;refine⟨a,cap,rfl,λq=>?_⟩;obtain⟨g,rfl,b,l⟩:=e q;exact⟨g,rfl,b,λi c o j u r=>(VK<|p g b).trans<|l i c o j u r⟩
def iE.mono{α:Type}{f:α->Y0}{b:List α}{v:Zb}(h:iE w G n f b v)(i:∀k,G k->H k):iE w H n f b v:=by obtain⟨a,cap,rfl,c⟩:=h;refine⟨a,cap,rfl,λj=>?_⟩;obtain⟨g,rfl,e,d⟩:=c j;exact⟨g,rfl,i g e,d⟩
def iE.rows{α:Type}{f:α->Y0}{a:List α}{v:Zb}(h:iE w G n f a v)(b:∀k,G k->k<i):br w i n f a v:=h.mono b
def LM{α:Type}{a:Nat}{e:Zf}{f:α->Y0}(r:∀x,(f x).length=n){c:List α}{v:Zb}(h:w.ownsRow a e n v c.length<|c.flatMap f):iE w (λk=>a<=k/\k<w.heap.size/\v.ownBlock=some k) n f c v:=by
 obtain⟨rfl,l⟩|⟨g,cap,d,rfl,q,o,A,B,hs,t⟩:=h.2
 .exact⟨none,0,by rw[l],λb=>absurd (V3.1 l) b⟩
 refine⟨_,cap,rfl,λC=>⟨g,rfl,⟨q,lB o,rfl⟩,λi x z j u y=>?_⟩⟩;have b:=nz f n r c i j x u z y;rw[<-t]at b;have p:d[i*n+j]?=some u:=by
  rw[V6]at b;split at b
  .simpa using b
  cases b
 rw[bC o];exact p
def jM.prog{P:Y7}{b:List cQ}(h:jM w n P F b):∃cv a c,w.heap[n]?=some (.cells #[cv,.slice a b.length c] 362)/\iE w (λk=>n+1<=k/\k<w.heap.size) 5 rK b (.slice a b.length c):=by
 obtain⟨_,_,_,_,_,cv,v,e,_,i,_⟩:=h;have j:iE w (λk=>n+1<=k/\k<w.heap.size) 5 rK b v:=(LM (f:=rK) (λx=>rfl) i).mono λk hk=>⟨hk.1,hk.2.1⟩;obtain⟨rfl,d⟩|⟨g,cap,l,rfl,_⟩:=i.2
 .exact⟨cv,none,0,by rw[d];exact e,by rw[d];exact j⟩
 exact⟨cv,_,_,e,j⟩
def br.more{α:Type}{f:α->Y0}{b:List α}{v:Zb}(h:br w k n f b v)(l:k<=i):br w i n f b v:=by obtain⟨a,cap,rfl,c⟩:=h;refine⟨a,cap,rfl,λe=>?_⟩;obtain⟨g,rfl,j,d⟩:=c e;exact⟨g,rfl,by omega,d⟩
def i7(w:Za)(hi:Nat)(ab:YY)(t:aA)(cv:Zb):Prop:=br w hi 5 rK (cy ab 0 t) cv
def El(a b:Nat):Nat->Prop:=λk=>a<=k/\k<b
def lM(w:Za)(Q:Y7)(ab:YY)(t:aA)(cv:Zb):Prop:=iE w Q 5 rK (cy ab 0 t) cv
def lM.prog{Q:Y7}(h:lM w Q F R u)(a:∀k,Q k->k<n):i7 w n F R u:=iE.rows h a
def lM.slice{cv:Zb}(h:lM w G F R cv):∃a n c,cv=.slice a n c:=by obtain⟨a,c,h,_⟩:=h;exact⟨a,_,c,h⟩
structure nh(w:Za)(t:aA)(v:Zb)(ab:YY)(cv:Zb):Prop where
 rules:i4 w
 d: 9<w.heap.size
 aW:xW w w.heap.size t v
 ok:cY t
 a:br w w.heap.size 3 lS ab cv
 len:ab.length<=1000
def nh.below{v:Zb}(h:nh w R v F u)(a:qB w W):nh W R v F u:=
 ⟨h.rules.aL<|a.block _ h.d,VT h.d a.size,(h.aW.aL λk hk=>a.block k hk).more a.size,h.ok,(h.a.aL λk hk=>a.block k hk).more a.size,h.len⟩
def My(w:Za)(t:aA)(ab:YY)(e:Zg)(w':Za):Prop:=qB w w' /\
 ((∃er,bD ab t=.error er/\e=.returned (.tuple #[.agg #[qN],qI 0,qI (er:Nat)])) \/
  (∃ty cv,bD ab t=.ok ty/\e=.returned (.tuple #[.agg #[cv],qI ty,qI 0])/\lM w' (El w.heap.size w'.heap.size) ab t cv))
def FB{v:Zb}(h:nh w R v F z):Zc prog 216 #[v,z] w<|My w R F:=by
 obtain⟨J,K,L,B,C,M⟩:=h;obtain⟨t,x,rfl⟩:∃a c,z=.slice a F.length c:=by obtain⟨a,c,h,_⟩:=C;exact⟨a,c,h⟩
 have hB:qB w<|(w.alloc<|.cells #[qN] 204).alloc<|.cells #[.slice t F.length x,qN] 362:=((VM w.heap.size w).alloc qZ _).alloc (by simp) _;have N:jM ((w.alloc<|.cells #[qN] 204).alloc<|.cells #[.slice t F.length x,qN] 362) (w.heap.size+1) (λk=>k<w.heap.size+1) F []:=by refine⟨λk hk=>⟨by simp;omega,by omega⟩,λk hk=>hk,by simp,by omega,J.aL<|hB.block _ K,_,qN,iL _ _<|by simp,?_,VP _ _ _ _,λk hk=>by cases hk⟩;exact(C.aL λk hk=>hB.block k hk).more (by omega)
 have p:=Z<|wi B.1 F [] (w.heap.size+1) (λk=>k<w.heap.size+1) _ v M N ((L.aL λk hk=>hB.block k hk).more<|by omega) (by have:=B.2.2;simp;omega);have O:((w.alloc<|.cells #[qN] 204).alloc<|.cells #[.slice t F.length x,qN] 362).heap[w.heap.size]?=some (.cells #[qN] 204):=bA (aM _ _) _;have A:=Z O;have HB:=Z hB;obtain⟨U,V,b⟩:=tF<|bD F R;unfold i6 at p;rw[b]at p;go_in;go_wp2_with fail;apply qR p;rintro H⟨(d:Ze _),i,j,D,e⟩;have I:=Z j;have q:=Z e;have g:=d.q (by omega) A;have S:=bC g;have rf:=bF g 0;have Q:=lB g;obtain⟨TT,E,G,l,y⟩:=j.prog;have r:=Z y;have n:Ze (∀u,qB w<|H.setCell ⟨w.heap.size,0,none⟩ u):=λu=>by have hk:Zd w.heap.size _ H:=⟨d.os,d.tape,d.output,d.size,λk hk=>d.block k<|by omega⟩;exact(HB.trans hk).setCell qZ _
 have T:=bC l;have P:=lB l;have o:=Z g;clear j e g p A l;cases htc:bD F R with
 |error e=>
  rw[htc]at b;simp[ou]at b;obtain⟨rfl,rfl⟩:=b;have j:((e:Int) != 0)=true:=by have:=fB htc;simp;omega
  go_wp2_with fail;refine VI (v:=.tuple #[.agg #[qN],qI 0,qI (e:Nat)]) ?_ rfl ⟨n _,.inl ⟨e,htc,rfl⟩⟩;have g:=bC (bS o 0 qN) 0;simp at g;simp[Zh,results216,go_sem,g]
 |ok ty=>
  rw[htc]at b;simp[ou]at b;obtain⟨rfl,rfl⟩:=b;go_wp2_with fail;refine VI (v:=.tuple #[.agg #[.slice E i.length G],qI ty,qI 0]) ?_ rfl ⟨n _,.inr ⟨ty,_,htc,rfl,?_⟩⟩
  .have e:=bC (bS o 0<|.slice E i.length G) 0;simp at e;simp[Zh,results216,go_sem,e]
  have e:=q.o ty htc;simp at e;unfold lM;rw[<-e];exact(r.aL λk hk=>VN _ _ _ _ (show k≠w.heap.size by omega)).mono (λk hk=>⟨by omega,by rw[size_set];exact hk.2⟩)
def mj(w:Za)(t:aA)(ab:YY)(want:Int)(e:Zg)(w':Za):Prop:=qB w w' /\
 ((∃er,aT ab t want=some er/\e=.returned (.tuple #[.agg #[qN],qI (er:Nat)])) \/
  (∃cv,aT ab t want=none/\e=.returned (.tuple #[.agg #[cv],qI 0])/\lM w' (El w.heap.size w'.heap.size) ab t cv))
def i7.slice{cv:Zb}(h:i7 w k F R cv):∃a n c,cv=.slice a n c:=by obtain⟨a,c,h,_⟩:=h;exact⟨a,_,c,h⟩
def i7.aL{w':Za}(h:i7 w n F R u)(a:∀k,k<n->w'.heap[k]?=w.heap[k]?):i7 w' n F R u:=br.aL h a
def i7.below(h:i7 w w.heap.size F R u)(a:qB w W):i7 W W.heap.size F R u:=(br.aL h λk hk=>a.block k hk).more a.size
def qe(a:Int){v:Zb}(h:nh w R v F z):Zc prog 161 #[v,z,qI a] w<|mj w R F a:=by
 have hB:qB w<|w.alloc<|.cells #[qN] 204:=(VM w.heap.size w).alloc qZ _;have D:Ze<|(w.alloc<|.cells #[qN] 204).heap[w.heap.size]?=some (.cells #[qN] 204):=aM _ _;have HB:=Z hB;have A:=Z MK;go_in;go_wp2_with apply(Z<|FB<|h.below hB).mono;rintro e C⟨l,y⟩;have i:=Z<|HB.trans<|l.mono (by simp);have d:=bB l (by simp) D;have x:=Z d;have J:=lB d;have rf:=bF d 0;have G:=bC d;simp at G;have c:Ze (∀(o:Obj) u,qB w<|(C.setCell ⟨w.heap.size,0,none⟩ u).alloc o):=λo u=>((i.setCell (p:=⟨w.heap.size,0,none⟩) (VR _) u).alloc (by rw[size_set];exact i.size) o);have g:Ze (∀(o:Obj) u,((C.setCell ⟨w.heap.size,0,none⟩ u).alloc o).heap[w.heap.size]?=some (.cells #[u] 204)):=λo u=>by have:=bA (bS x 0 u) o;simpa using this
 obtain⟨j,b,rfl⟩|⟨H,TT,b,rfl,B⟩:=y
 .have r:((j:Int) != 0)=true:=by have:=fB b;simp;omega
  have k:((j:Int)==0)=false:=by have:=fB b;simp;omega
  have q:Ze<|aT F R a=some j:=by rw[Ze,aT,b]
  go_wp2_with refine VI (v:=.tuple #[.agg #[qN],qI (j:Nat)]) ?_ rfl ⟨c _ _,.inl ⟨j,q,rfl⟩⟩;have n:=bC (g (.cells #[qN] 204) qN) 0;simp at n;simp[Zh,results161,go_sem,n]
 obtain⟨n,r,q,rfl⟩:=B.slice;have t:=Z B;cases hal:dt H a with
 |false=>
  have E:Ze<|aT F R a=some 3:=by rw[Ze,aT,b];simp[hal]
  go_wp2_with (go_at_call 217;apply(A _ _ _).mono;rintro e I⟨rfl,rfl⟩);refine VI (v:=.tuple #[.agg #[qN],qI 3]) ?_ rfl ⟨c _ _,.inl ⟨3,E,rfl⟩⟩;have k:=bC (g (.cells #[.slice n r q] 204) qN) 0;simp at k;simp[Zh,results161,go_sem,k]
 |true=>
  have E:Ze<|aT F R a=none:=by rw[Ze,aT,b];simp[hal]
  go_wp2_with (go_at_call 217;apply(A _ _ _).mono;rintro e K⟨rfl,rfl⟩);refine VI (v:=.tuple #[.agg #[.slice n r q],qI 0]) ?_ rfl ⟨c _ _,.inr ⟨_,E,rfl,?_⟩⟩
  .have k:=bC (g (.cells #[.slice n r q] 204)<|.slice n r q) 0;simp at k;simp[Zh,results161,go_sem,k]
  refine(t.aL λk hk=>?_).mono (λk hk=>⟨by have:=hk.1;simp at this;omega,by have:=hk.2;simp[size_set];omega⟩);have I:=hk.2;rw[V2 _ _ _ (by rw[size_set];omega),VN _ _ _ _ (show k≠w.heap.size by have:=hk.1;simp at this;omega)]
def mn(g:YY):∀(t:aA)(b:Nat),ib t->gI t->∀c∈cy g b t,dv c.v/\c.aC<=20
 |.nil,_,h,_,_,_=>absurd h id
 |.node _ _ p l r,b,hw,hk,c,a=>by
  obtain⟨o,_,i,e⟩:=hw;obtain⟨u,kl,j⟩:=hk;have d:∀(k q:Nat),k<=20->dv (⟨k,aE,q⟩:cQ).v/\(⟨k,aE,q⟩:cQ).aC<=20:=λk q h=>⟨pN,h⟩;unfold cy at a;split at a
  .rename_i n;simp at a;subst a;refine⟨?_,by simp⟩;obtain h|h|h|h:=u n
   .exact .inl h
   .exact .inr<|.inl ⟨h.1,h.2.1,by show _<=p.n;omega,h.2.2.2⟩
   .exact .inr<|.inr<|.inl h
   exact .inr<|.inr<|.inr h
  split at a
  .simp at a;subst a;exact d _ _<|by omega
  split at a
  .obtain a|a:=V1.1 a
   .exact mn g l b (e<|by omega) kl c a
   simp at a;subst a;exact d _ _<|by omega
  split at a
  .obtain a|a:=V1.1 a
   .exact mn g l b (e<|by omega) kl c a
   obtain a|a:=V1.1 a
   .exact mn g r _ (i<|by omega) j c a
   simp at a;subst a;exact d _ _<|by omega
  obtain a|a:=V1.1 a
  .exact mn g l b (e<|by omega) kl c a
  obtain rfl|a:=V8.1 a
  .exact d _ _<|by omega
  obtain a|a:=V1.1 a
  .exact mn g r _ (i<|by omega) j c a
  simp at a;subst a;exact d _ _<|by omega
def gR(ab:YY)(t:aA):Prop:=cY t/\∃ty,bD ab t=.ok ty
def ke(ab:YY)(row:YW):Prop:=gY row/\ab.length<=row.length
def runT(X:dD)(c:i7 w w.heap.size F R u)(d:br w w.heap.size 3 vC I z)(b:gR F R)(a:ke F I):
 Zc prog 162 #[.agg #[u],z] w (qF (jW<|bZ F I R) w):=by
 have e:=qo F R 0;have g:=b.1.2.2;exact runM X (mn F R 0 b.1.1 b.1.2.1) (by omega) a.1 (by omega) (D7 F I b.1.1 b.2 a.2) c d
def IC(X:dD)(d:i7 w w.heap.size F R u)(e:br w w.heap.size 3 vC I z)(c:gR F R)(a:ke F I):
 Zc prog 163 #[.agg #[u],z] w (qF (uh<|bZ F I R) w):=
 Qk u z w (λg b=>runT X (d.below b) ((e.aL λk hk=>b.block k hk).more b.size) c a)
def jc:∀{t:aA}{e:Nat},bZ F I t=.error e->e=4\/e=5
 |.nil,e,h=>by simp[bZ]at h
 |.node _ _ p l r,e,h=>by
  unfold bZ at h;split at h
  .cases h
  split at h
  .cases h
  cases hl:bZ F I l with
  |error e'=>rw[hl]at h;cases h;exact jc hl
  |ok a=>
   rw[hl]at h;simp only at h;split at h
   .exact Ar h
   split at h
   .cases h
   cases hr:bZ F I r with
   |error e'=>rw[hr]at h;cases h;exact jc hr
   |ok b=>rw[hr]at h;exact As h
def jD(w:Za)(hi:Nat)(ab:YY)(ps:List<|aA×Zb)(v:Zb):Prop:=br w hi 1 (λp=>[p.2]) ps v/\∀p∈ps,i7 w hi ab p.1 p.2
def jD.aL{w':Za}{b:List (aA×Zb)}{v:Zb}(h:jD w n F b v)(a:∀k,k<n->w'.heap[k]?=w.heap[k]?):jD w' n F b v:=⟨h.1.aL a,λp c=>(h.2 p c).aL a⟩
def jD.more{b:List (aA×Zb)}{v:Zb}(h:jD w n F b v)(a:n<=k):jD w k F b v:=⟨h.1.more a,λp c=>br.more (h.2 p c) a⟩
def jD.below{b:List (aA×Zb)}{v:Zb}(h:jD w w.heap.size F b v)(a:qB w W):jD W W.heap.size F b v:=(h.aL λk hk=>a.block k hk).more a.size
def br.below{α:Type}{f:α->Y0}{b:List α}{v:Zb}(h:br w w.heap.size n f b v)(a:qB w W):br W W.heap.size n f b v:=(h.aL λk hk=>a.block k hk).more a.size
def br.c{α:Type}{f:α->Zb}{b:List α}{v:Zb}(h:br w n 1 (λx=>[f x]) b v){c:α}(d:b[i]?=some c):∃g cap,v=qL g b.length cap/\g<n/\w.cell? ⟨g,i,none⟩=some (f c):=by obtain⟨a,cap,rfl,e⟩:=h;obtain⟨g,rfl,k,j⟩:=e (by rintro rfl;simp at d);have:=j i c d 0 _ rfl;rw[Yp,Ye]at this;exact⟨g,cap,rfl,k,this⟩
def br.slice{α:Type}{f:α->Y0}{b:List α}{v:Zb}(h:br w k n f b v):∃a c,v=.slice a b.length c:=by obtain⟨a,c,h,_⟩:=h;exact⟨a,c,h⟩
def c_(vs:YW):Y0:=vs.flatMap vC
def pS(a b:YW):c_ (a++b)=c_ a++c_ b:=by simp[c_]
def xE(v:ai):c_ [v]=vC v:=by simp[c_]
def kB(a:YW):(c_ a).length=a.length*3:=by
 induction a with
 |nil=>rfl
 |cons c cs ih=>show(vC c++c_ cs).length=_;rw[VH,ih];simp[vC];omega
def mK:(prog.info? 34).map (λi=>(i.zero,i.size,i.bytes))=some (some<|.agg #[qI 0,qI 0,.string ⟨#[]⟩],3,32):=by kernel_rfl
def a_{b:Option Nat}(h:Zd n w W)(a:W.grownBy x b)(c:∀k,b=some k->n<=k)(d:n<=W.heap.size):Zd n w x:=
 h.trans ⟨a.os,a.tape,a.output,a.size,λi hi=>a.block i (by omega) (λe=>by have:=c i e.symm;omega)⟩
def uC(w:Za)(o:Obj)(C:Y0)(t:Zf):∀j u,C[j]?=some u->((w.alloc o).alloc<|.cells C.toArray t).cell? ((⟨w.heap.size+1,0,none⟩:Addr).add j)=some u:=by intro j u a;have:=cW (w.alloc o) C t j u a;rw[show(w.alloc o).heap.size=w.heap.size+1 by simp]at this;exact this
def EP(x:ai):∀u∈vC x,u.oneCell'=true:=by intro u a;simp[vC]at a;rcases a with rfl|rfl|rfl<;>rfl
def J0(w:Za)(o:aV YW)(e:Zg)(w':Za):Prop:=qB w w' /\
 ((∃er,o=.error er/\e=.returned (.tuple #[qN,qI (er:Nat)])) \/
  (∃vs v,o=.ok vs/\e=.returned (.tuple #[v,qI 0])/\w'.ownsRow w.heap.size 34 3 v vs.length (c_ vs)))
def rU(acc:YW):aV (YW)->aV YW
 |.error e=>.error e
 |.ok vs=>.ok<|acc++vs
def Ao{a:Y6}{v:ai}(h:bZ F I R=.ok v):rU J (bH F I<|R::a)=rU (J++[v]) (bH F I a):=by
 rw[bH,h];simp only;cases bH F I a with
 |error e=>rfl
 |ok vs=>simp[rU]
def CX{a:Y6}{e:Nat}(h:bZ F I R=.error e):rU J (bH F I<|R::a)=.error e:=by rw[bH,h];rfl
def KR(w wr:Za)(o:aV YW)(ab:YY)(row:YW)(ps:List<|aA×Zb)(i:Nat)(v:Zb)(acc:YW):Prop:=
 qB w wr/\wr.ownsRow w.heap.size 34 3 v acc.length (c_ acc)/\acc.length=i/\o=rU acc (bH ab row<|(ps.drop i).map (·.1))
def vF(X:dD){b:List (aA×Zb)}(hp:jD w w.heap.size F b u)(hr:br w w.heap.size 3 vC I z)(hf:∀p∈b,gR F p.1)(H:ke F I)(hl:b.length<=1000):
 Zc prog 104 #[u,z] w (J0 w<|bH F I<|b.map (·.1)):=by
 obtain⟨pa,pc,rfl⟩:=hp.1.slice;obtain⟨ra,rc,rfl⟩:=hr.slice;obtain⟨i0,hi,J,K,L⟩:=V5 mK;have P:=Z hp;have E:=Z hr;have HF:=Z hf;generalize ho:bH F I (b.map (·.1))=o;have HO:=Z ho;go_in;go_wp2_with (at_make;refine wpList_make_own _ rfl _ _ 32 rfl w.heap.size 34 i0 (.agg #[qI 0,qI 0,.string ⟨#[]⟩]) 3 underlying32 hi J K .i64 .i64 _ b.length rfl rfl rfl (by rw[L];omega) (by unfold Zj;omega) qZ ?_;intro w0 B R);have M:=Z<|a_ (VM w.heap.size w) R (λk h=>(by cases h)) qZ;have N:Ze<|KR w w0 o F I b 0 (qL w.heap.size 0 b.length) []:=⟨M,B,rfl,by rw[<-HO];simp;cases bH F I (b.map (·.1))<;>simp[rU]⟩
 go_loopw [6,16] (λs6 U wr=>∃(i:Nat) (d:YW),i<=b.length/\U=qI i/\Ze (KR w wr o F I b i s6 d)) (λ_ a _=>b.length-(Zk a).toNat)
 exact⟨0,[],qO,rfl,N⟩
 case round=>
  obtain⟨i,d,ac,rfl,HI⟩:=hrel;obtain⟨(HB:Ze _),j,t,(y:Ze _)⟩:=HI.o;obtain⟨va,vn,vc,rfl⟩:=aF j;have Q:=HB.size;by_cases A:i<b.length
  .have T:b[i]?=some b[i]:=VE A;have W:Ze<|b.drop i=b[i]::b.drop (i+1):=VJ A;have e:=VQ A;generalize b[i]=p at*;obtain⟨pt,ad⟩:=p;obtain⟨g,cap,he,hg,e0⟩:=(P.1.aL λk hk=>HB.block k hk).c T;cases he;have ab:g<wr.heap.size:=by omega
   obtain⟨qa,qn,qc,rfl⟩:=(P.2 _ e).slice;have r:qB wr<|wr.alloc<|.cells #[.slice qa qn qc] 204:=qA;have c:=Z<|runT X (((P.2 _ e).below HB).below r) ((E.below HB).below r) (HF _ e) H;have n:=Z<|HB.trans<|r.mono Q;have D:=Z<|aB r j;simp only at e0;cases hev:bZ F I pt with
   |error q=>
    have G:((q:Int) != 0)=true:=by have:=jc hev;simp;omega
    rw[hev]at c;have C:Ze<|o=.error q:=by rw[Ze,y,W];exact CX hev
    simp only[jW,vV]at c;go_wp2_with fail;apply qR c;intro O x;have l:=Z<|n.trans<|x.mono n.size;go_wp2;go_ret2;exact⟨l.alloc l.size _,.inl ⟨q,C,rfl⟩⟩
   |ok x=>
    rw[hev]at c;have HN:Ze<|o=rU (d++[x]) (bH F I<|(b.drop<|i+1).map (·.1)):=by rw[Ze,y,W];exact Ao hev
    simp only[jW,vV]at c;go_wp2_with fail;apply qR c;intro V G;have q:=Z<|n.trans<|G.mono n.size;have l:=aB G D;have aa:w.heap.size<=V.heap.size:=q.size;go_wp2_with (at_builtin;refine VS _ rfl (.tmp 29) (.tmp 31) 32 rfl w.heap.size 34 i0 _ 3 32 underlying32 hi J K L rfl (by decide) _ _ _ rfl ((l.alloc _).alloc _) ⟨V.heap.size+1,0,none⟩ 1 1 (vC x) rfl rfl ?c1 ?c2 ?c3 ?c4 ?c5 ?_)
    case c1=>exact uC V _ (vC x) 34
    case c2=>exact EP x
    case c3=>unfold Zj;omega
    case c4=>omega
    case c5=>simp;omega
    intro v' w4 C S Y;have O:Ze<|KR w w4 o F I b (i+1) v'<|d++[x]:=by refine⟨a_ ((q.alloc q.size _).alloc (by have:=q.size;simp;omega) _) S (λk hk=>(l.lt k hk).1) (by simp;omega),?_,by simp[t],HN⟩;rw[pS,xE,VH,V_,t];exact C
    go_wp2;go_roundw;exact⟨i+1,d++[x],by omega,by go_num,O⟩;simp[Zk];omega
  have e:Ze<|o=.ok d:=by unfold Ze;rw[y,Wo<|by omega];simp[bH,rU]
  have c:=Z j;go_wp2;go_ret2;exact⟨HB,.inr ⟨d,_,e,rfl,c⟩⟩
def ph(w:Za)(v:Zb):Nat->Prop:=λk=>k<w.heap.size/\v.ownBlock≠some k
def ph.below{v:Zb}(a:qB w W)(h:ph w v k):ph W v k/\W.heap[k]?=w.heap[k]?:=⟨⟨by have:=a.size;have:=h.1;omega,h.2⟩,a.block k h.1⟩
def ph.new{e:Zf}{v:Zb}{b:Y0}(h:w.ownsRow i e j v n b)(c:w.heap.size<=k)(a:k<W.heap.size):ph W v k:=⟨a,λe=>by have:=(h.lt k e).2;omega⟩
def ph.push{v:Zb}(b:w.grownBy W v.ownBlock)(a:u.ownBlock=v.ownBlock\/u.ownBlock=some w.heap.size){k:Nat}(h:ph w v k):ph W u k/\W.heap[k]?=w.heap[k]?:=by
 refine⟨⟨by have:=b.size;have:=h.1;omega,λe=>?_⟩,b.block k h.1 λe=>h.2 e.symm⟩;obtain a|a:=a
 .rw[a]at e;exact h.2 e
 rw[a]at e;cases e;have:=h.1;omega
def OT(c:YX×Int):Y0:=[qT c.1,qI c.2]
def Dk(src:YX)(c:YX×Int):ah:=⟨src,c.1,c.2⟩
def yw(a:YX)(t:bV):ax a t=t.a.map (Dk a):=rfl
def kP(cs:YY):Y0:=cs.flatMap lS
def C4(a b:YY):kP (a++b)=kP a++kP b:=by simp[kP]
def K9(c:ah):kP [c]=lS c:=by simp[kP]
def M4{x:ah}:∀u∈lS x,u.oneCell'=true:=by intro u a;simp[lS]at a;rcases a with rfl|rfl|rfl<;>rfl
def Ka:(prog.info? 271).map (λi=>(i.zero,i.size,i.bytes))=some (some<|.agg #[.string ⟨#[]⟩,.string ⟨#[]⟩,qI 0],3,40):=by kernel_rfl
def Kc:(prog.info? 204).map (λi=>(i.zero,i.size,i.bytes))=some (some<|.agg #[qN],1,24):=by kernel_rfl
def br.d{b:List (YX×Int)}{v:Zb}(h:br w n 2 OT b v){c:YX×Int}(d:b[i]?=some c):∃g cap,v=qL g b.length cap/\g<n /\
 w.cell? ⟨g,i*2,none⟩=some (qT c.1)/\w.cell? ⟨g,i*2+1,none⟩=some (qI c.2):=by
 obtain⟨a,cap,rfl,j⟩:=h;obtain⟨g,rfl,k,e⟩:=j (by rintro rfl;simp at d);exact⟨g,cap,rfl,k,e i c d 0 _ rfl,e i c d 1 _ rfl⟩
def KS(w:Za)(ab:YY)(e:Zg)(w':Za):Prop:=qB w w'/\∃v,e=.returned v/\w'.ownsRow w.heap.size 271 3 v ab.length (kP ab)
def MG(w wr:Za)(src:YX)(cs:List<|YX×Int)(i:Nat)(v:Zb):Prop:=qB w wr/\wr.ownsRow w.heap.size 271 3 v i (kP<|(cs.take i).map<|Dk src)
def Jr(e:YX){d:List (YX×Int)}(T:n<w.heap.size)(Q:w.cell? ⟨n,1,none⟩=some u)(l:br w w.heap.size 2 OT d u)(S:d.length<=1000):
 Zc prog 106 #[.pointer<|some ⟨n,0,none⟩,.string ⟨e.toArray⟩] w (KS w<|d.map<|Dk e):=by
 obtain⟨M,N,rfl⟩:=l.slice;obtain⟨J,hi,t,x,y⟩:=V5 Ka;have C:=Z l;go_in;go_wp2
 go_loopw [5,13] (λK z wr=>∃(i:Nat),i<=d.length/\z=.int .i64 i/\Ze (MG w wr e d i K)) (λ_ a _=>d.length-(Zk a).toNat)
 exact⟨0,Wi _,rfl,VM _ _,VP _ _ _ _⟩
 case round=>
  obtain⟨i,I,rfl,E⟩:=hrel;obtain⟨h,b⟩:=E.o;obtain⟨U,W,V,rfl⟩:=aF b;have F:=h.size;by_cases r:i<d.length
  .have o:d[i]?=some d[i]:=VE r;have D:Ze<|d.take (i+1)=d.take i++[d[i]]:=by rw[Ze,V9,o];rfl
   generalize d[i]=c at*;obtain⟨g,cap,G,R,O,P⟩:=(C.aL λk hk=>h.block k hk).d o;cases G;have H:g<wr.heap.size:=by omega
   have HB:=Z h;go_wp2_with (at_builtin;refine VS _ rfl (.tmp 17) (.tmp 24) 207 rfl w.heap.size 271 J _ 3 40 underlying207 hi t x y rfl (by decide) _ _ _ rfl ((b.alloc _).alloc _) ⟨wr.heap.size+1,0,none⟩ 1 1 (lS<|Dk e c) rfl rfl ?c1 ?c2 ?c3 ?c4 ?c5 ?_)
   case c1=>exact uC wr _ (lS<|Dk e c) 271
   case c2=>exact M4
   case c3=>unfold Zj;omega
   case c4=>omega
   case c5=>simp;omega
   intro L B j q A;have p:Ze<|MG w B e d (i+1) L:=by refine⟨a_ ((HB.alloc HB.size _).alloc (by have:=HB.size;simp;omega) _) q (λk hk=>(b.lt k hk).1) (by simp;omega),?_⟩;rw[D,Wc,C4];show B.ownsRow _ _ _ _ _ (_++kP [Dk e c]);rw[K9,XR];exact j
   go_wp2;go_roundw;exact⟨i+1,by omega,by go_num,p⟩;simp[Zk];omega
  obtain rfl:i=d.length:=by omega
  rw[Wj]at b;have HB:=Z h;have c:=Z b;go_wp2;go_ret;exact⟨HB,_,rfl,by simpa using c.o⟩
structure Hy(w:Za)(t:aA)(v:Zb)(ab:YY)(cv:Zb):Prop where
 rules:i4 w
 d: 9<w.heap.size
 aW:xW w w.heap.size t v
 ok:sS t
 a:br w w.heap.size 3 lS ab cv
 len:ab.length<=1000
def Hy.comp{v:Zb}(h:Hy w R v F u)(a:R≠.nil):nh w R v F u:=
 ⟨h.rules,h.d,h.aW,h.ok.resolve_left a,h.a,h.len⟩
def qh(t:aA)(o:YY)(v r:Zb)(w:Za)(h:Hy w t v o r):Zc prog 105 #[v,r] w<|mj w (aK t) o 3:=by
 have hB:qB w<|w.alloc<|.cells #[qN] 204:=(VM w.heap.size w).alloc qZ _;have HB:=Z hB;have A:Ze<|(w.alloc<|.cells #[qN] 204).heap[w.heap.size]?=some (.cells #[qN] 204):=aM _ _;have g:Ze (∀q d:Za,∀e,qB w q->w.heap.size<q.heap.size->q.heap[w.heap.size]?=some (.cells #[qN] 204)->mj q (aK t) o 3 e d->∃u l,e=.returned (.tuple #[.agg #[u],qI l])/\d.heap[w.heap.size]?=some (.cells #[qN] 204)/\(∃a n c,u=.slice a n c)/\mj w (aK t) o 3 (.returned<|.tuple #[.agg #[u],qI l]) (d.setCell ⟨w.heap.size,0,none⟩ u)):=by
  intro q d e i y z ⟨j,D⟩;have p:=bB j y z;have C:∀u,qB w<|d.setCell ⟨w.heap.size,0,none⟩ u:=λu=>(i.trans<|j.mono i.size).setCell qZ u;obtain⟨l,x,rfl⟩|⟨u,x,rfl,B⟩:=D
  .exact⟨_,_,rfl,p,⟨_,_,_,rfl⟩,C _,.inl ⟨l,x,rfl⟩⟩
  refine⟨_,_,rfl,p,B.slice,C _,.inr ⟨u,x,rfl,?_⟩⟩;exact(iE.aL B λk hk=>VN _ _ _ _ (show k≠w.heap.size by have:=hk.1;omega)).mono (λk hk=>⟨by have:=hk.1;omega,by rw[size_set];exact hk.2⟩)
 by_cases b:t=.nil
 ·subst b;obtain rfl:v=.pointer none:=h.aW;have i:qB w<|(w.alloc<|.cells #[qN] 204).alloc<|.cells #[qI 0,qI 3,qI 1,.string ⟨#[]⟩,.string ⟨#[]⟩,.string ⟨#[]⟩,.pointer none,.pointer none] 269:=hB.alloc (by simp) _;have G:nh ((w.alloc<|.cells #[qN] 204).alloc<|.cells #[qI 0,qI 3,qI 1,.string ⟨#[]⟩,.string ⟨#[]⟩,.string ⟨#[]⟩,.pointer none,.pointer none] 269) (aK .nil) (qP<|w.heap.size+1) o r:=by
   refine⟨h.rules.aL<|i.block _ h.d,VT h.d i.size,?_,nV<|.inl rfl,h.a.below i,h.len⟩;exact⟨w.heap.size+1,_,_,rfl,by simp,iL _ _<|by simp,rfl,rfl⟩
  have F:=Z<|qe 3 G;have D:=Z λd e x=>g _ d e i (by simp;omega) (bA A _) x;go_in;go_wp2_with refine F.mono ?_;intro e d x;obtain⟨u,l,rfl,j,⟨z,C,B,rfl⟩,k⟩:=D.o d e x;have H:=bC j 0;have rf:=bF j 0;simp at H;have I:=lB j;have E:=Z k;have p:=Z j;go_wp2_with refine VI (v:=.tuple #[.agg #[.slice z C B],qI l]) ?_ rfl E;have y:=bC (bS p 0<|.slice z C B) 0;simp at y;simp[Zh,results105,go_sem,y]
 have E:aK t=t:=by
  cases t with
  |nil=>exact absurd rfl b
  |node=>rfl
 obtain⟨n,rfl⟩:∃n,v=.pointer (some n):=by
  have:=h.aW;cases t with
  |nil=>exact absurd rfl b
  |node=>
   obtain⟨n,_,_,F,_⟩:=this;exact⟨_,F⟩
 rw[E]at g ⊢;have C:=Z λd e p=>g _ d e hB (by simp) A p;go_in;go_wp2_with refine(Z<|qe 3<|(h.comp b).below hB).mono ?_;intro e d p;obtain⟨u,l,rfl,i,⟨y,B,z,rfl⟩,j⟩:=C.o d e p;have H:=bC i;have rf:=bF i 0;have G:=lB i;have D:=Z j;have k:=Z i;go_wp2_with refine VI (v:=.tuple #[.agg #[.slice y B z],qI l]) ?_ rfl D;have x:=bC (bS k 0<|.slice y B z) 0;simp at x;simp[Zh,results105,go_sem,x]
def jU(w:Za)(hi:Nat)(ts:List<|aA×Zb)(v:Zb):Prop:=br w hi 1 (λp=>[p.2]) ts v/\∀p∈ts,xW w hi p.1 p.2
def jU.aL{w':Za}{b:List (aA×Zb)}{v:Zb}(h:jU w n b v)(a:∀k,k<n->w'.heap[k]?=w.heap[k]?):jU w' n b v:=⟨h.1.aL a,λp c=>(h.2 p c).aL a⟩
def jU.more{b:List (aA×Zb)}{v:Zb}(h:jU w n b v)(a:n<=k):jU w k b v:=⟨h.1.more a,λp c=>(h.2 p c).more a⟩
def jU.below{b:List (aA×Zb)}{v:Zb}(h:jU w w.heap.size b v)(a:qB w W):jU W W.heap.size b v:=(h.aL λk hk=>a.block k hk).more a.size
def CT(w:Za)(ab:YY)(ts:Y6)(o:Option Nat)(e:Zg)(w':Za):Prop:=qB w w' /\
 ((∃er,o=some er/\e=.returned (.tuple #[qN,qI (er:Nat)])) \/
  (o=none/\∃ps v,ps.map (·.1)=ts/\e=.returned (.tuple #[v,qI 0])/\jD w' w'.heap.size ab ps v))
def Ql(ps:List<|aA×Zb):Y0:=ps.map (·.2)
def uV(w wr:Za)(ab:YY)(ts:List<|aA×Zb)(o:Option Nat)(rest:Option Nat)(i:Nat)(v:Zb)(ps:List<|aA×Zb):Prop:=
 qB w wr/\wr.ownsRow w.heap.size 204 1 v i (Ql ps)/\ps.map (·.1)=(ts.take i).map (·.1)/\ps.length=i/\o=rest/\∀p∈ps,lM wr (ph wr v) ab p.1 p.2
def uV.end{wr:Za}{n:List (aA×Zb)}{o rest:Option Nat}{v:Zb}{c:List (aA×Zb)}(h:uV w wr F n o rest i v c):jD wr wr.heap.size F c v:=by
 obtain⟨q,b,r,d,t,g⟩:=h;refine⟨?_,λp j=>(g p j).prog λk hk=>hk.1⟩;have e:∀l:List<|aA×Zb,l.flatMap (λp=>[p.2])=Ql l:=λl=>by
  induction l with
  |nil=>rfl
  |cons a l ih=>rw[Xc,ih];rfl
 rw[<-d,<-e]at b;exact c7 (f:=λp:aA×Zb=>[p.2]) (λx=>rfl) b qZ
def uV.next{wr w2:Za}{n:List (aA×Zb)}{o rest a:Option Nat}{v v':Zb}{l:List (aA×Zb)}{p:aA×Zb}{cv:Zb}(h:uV w wr F n o rest i v l)(A:n[i]?=some p)(B:rest=a)(c:qB wr w2)(z:lM w2 (El wr.heap.size w2.heap.size) F p.1 cv)
 (e:W.ownsRow w.heap.size 204 1 v' (i+1)<|Ql l++[cv]) (d:w2.grownBy W v.ownBlock) (g:v'.ownBlock=v.ownBlock\/v'.ownBlock=some w2.heap.size):uV w W F n o a (i+1) v'<|l++[(p.1,cv)]:=by
 obtain⟨r,j,t,u,x,y⟩:=h;have C:=r.size;refine⟨a_ (r.trans<|c.mono C) d (λk hk=>(j.lt k hk).1) (by have:=c.size;omega),?_,?_,by simp[u],by rw[x,B],λq b=>?_⟩
 .simpa[Ql]using e
 .rw[V9,A];simp[t]
 .obtain b|b:=V1.1 b
  .exact((y q b).aL λk hk=>((ph.push d g (hk.below c).1).2).trans (hk.below c).2).mono (λk hk=>(ph.push d g (hk.below c).1).1)
  simp at b;subst b;exact(iE.aL z λk hk=>(ph.push d g<|ph.new j hk.1 hk.2).2).mono (λk hk=>(ph.push d g<|ph.new j hk.1 hk.2).1)
def L9{b:Y6}(h:bD F R=.ok a):bE F (R::b)=bE F b:=by rw[bE,h]
def JE{a:Y6}{e:Nat}(h:bD F R=.error e):bE F (R::a)=some e:=by rw[bE,h]
def yR{b:List (aA×Zb)}(hr:i4 w)(hg: 9<w.heap.size)(Q:jU w w.heap.size b z)(O:∀p∈b,cY p.1)(r:br w w.heap.size 3 lS F A)(L:F.length<=1000)(hl:b.length<=1000):
 Zc prog 170 #[z,A] w (CT w F (b.map (·.1))<|bE F<|b.map (·.1)):=by
 obtain⟨ta,tc,rfl⟩:=Q.1.slice;obtain⟨ca,cc,rfl⟩:=r.slice;obtain⟨i0,hi,R,S,T⟩:=V5 Kc;have HT:=Z Q;have H:Ze (∀V p,qB w V->p∈b->nh V p.1 p.2 F (.slice ca F.length cc)):=λV p hb hp=>
  (nh.mk hr hg (Q.2 p hp) (O p hp) r L).below hb
 generalize ho:bE F (b.map (·.1))=o;have HO:=Z ho;go_in;go_wp2
 go_loopw [6,14] (λs6 U wr=>∃(i:Nat) (E:List<|aA×Zb),i<=b.length/\U=qI i/\Ze (uV w wr F b o (bE F<|(b.drop i).map (·.1)) i s6 E)) (λ_ a _=>b.length-(Zk a).toNat)
 exact⟨0,[],qO,rfl,qW,VP _ _ _ _,rfl,rfl,HO.symm,by simp⟩
 case round=>
  obtain⟨i,E,ad,rfl,h⟩:=hrel;have j:=h.1;obtain⟨va,vn,vc,rfl⟩:=aF h.2.1;have K:=j.size;by_cases n:i<b.length
  .have y:b[i]?=some b[i]:=VE n;have X:Ze<|b.drop i=b[i]::b.drop (i+1):=VJ n;have t:=VQ n;generalize b[i]=p at*;obtain⟨pt,pv⟩:=p;obtain⟨g,cap,he,ab,e0⟩:=(HT.1.aL λk hk=>j.block k hk).c y;cases he;have ac:g<wr.heap.size:=by omega
   simp only at e0;have HB:=Z j;go_wp2_with apply(Z<|FB<|H wr _ j t).mono;rintro e W⟨(c:Ze _),P⟩;have aa:=c.size;obtain⟨J,l,rfl⟩|⟨ty,u,l,rfl,d⟩:=P
   .have x:((J:Int) != 0)=true:=by have:=fB l;simp;omega
    have q:Ze<|o=some J:=by rw[Ze,h.2.2.2.2.1,X];exact JE l
    go_wp2;go_ret2;exact⟨(HB.trans<|c.mono K).alloc (by omega) _,.inl ⟨J,q,rfl⟩⟩
   obtain⟨B,D,C,rfl⟩:=d.slice;have I:=Z d;have HN:Ze<|bE F ((b.drop i).map (·.1))=bE F ((b.drop<|i+1).map (·.1)):=by rw[Ze,X];exact L9 l
   go_wp2_with (at_builtin;refine Wv _ rfl (.tmp 28) (.tmp 30) 195 rfl w.heap.size 204 i0 _ 1 24 underlying195 hi R S T rfl (by decide) _ _ _ rfl (((aB c h.2.1).alloc _).alloc _) ⟨W.heap.size+1,0,none⟩ 1 1 [.slice B D C] rfl rfl ?c1 ?c2 ?c3 ?c4 ?c5 ?_)
   case c1=>exact uC W _ [.slice B D C] 204
   case c2=>intro x hx;simp at hx;subst hx;rfl
   case c3=>unfold Zj;omega
   case c4=>omega
   case c5=>simp;omega
   intro v' w4 q M Y N
   have G:=Z (h.next (w2:=(W.alloc<|.cells #[.slice B D C] 204).alloc<|.cells #[.slice B D C] 204) (v':=v') (cv:=.slice B D C) y HN ((c.alloc c.size _).alloc (by simp;omega) _) ((iE.aL I (λk hk=>by
    have:=hk.2
    rw[V2 _ _ _ (by simp;omega),V2 _ _ _<|by omega])).mono λk hk=>⟨hk.1,by have:=hk.2;simp;omega⟩) q M<|by simpa using N)
   go_wp2;go_roundw;exact⟨i+1,_,by omega,by go_num,G⟩;simp[Zk];omega
  obtain rfl:i=b.length:=by omega
  have c:Ze<|o=none:=by rw[Ze,h.2.2.2.2.1,Wa];rfl
  have d:Ze<|E.map (·.1)=b.map (·.1):=by rw[Ze,h.2.2.1,Wj]
  go_wp2;go_ret2;exact⟨h.1,.inr ⟨c,E,_,d,rfl,h.end⟩⟩
def Ak(w:Za)(M:Y7)(r:YW)(u:Zb):Prop:=w.ownsRow 0 34 3 u r.length (c_ r)/\∀k,u.ownBlock=some k->M k
def EJ(cs:List<|YX×Int):Y0:=cs.flatMap OT
structure fG where
 n:Nat
 a:Zb
 us:Y0
abbrev Y5:=List fG
structure B_(w:Za)(M:Y7)(l:fG)(t:bV):Prop where
 own:M l.n
 q:∃cv,w.heap[l.n]?=some (.cells #[qT t.name,cv,l.a] 94)/\w.ownsRow 0 97 2 cv t.a.length (EJ t.a)/\∀k,cv.ownBlock=some k->M k
 rows:w.ownsRow 0 32 1 l.a t.rows.length l.us
 a:∀k,l.a.ownBlock=some k->M k
 empty:t.rows=[]->l.a=qN
 each:∀(i:Nat) (r:YW) (u:Zb),t.rows[i]?=some r->l.us[i]?=some u->Ak w M r u
def gC(l:fG):Zb:=qP l.n
structure pY(w:Za)(M:Y7)(b:Nat)(lay:Y5)(D:aI):Prop where
 lt:∀k,M k->k<w.heap.size
 own:M b
 box:∃tv,w.heap[b]?=some (.cells #[tv] 77)/\w.ownsRow 0 87 1 tv D.length (lay.map gC)/\∀k,tv.ownBlock=some k->M k
 len:lay.length=D.length
 c:∀(i:Nat) (l:fG) (t:bV),lay[i]?=some l->D[i]?=some t->B_ w M l t
 apart:∀(i j:Nat) (l m:fG),i≠j->lay[i]?=some l->lay[j]?=some m->l.n≠m.n/\∀k,l.a.ownBlock=some k->m.a.ownBlock≠some k
 ok:ec D
def cN{e:Zf}{v:Zb}{c:Y0}(h:w.ownsRow i e j v n c)(p:∀k,v.ownBlock=some k->W.heap[k]?=w.heap[k]?):W.ownsRow i e j v n c:=by
 obtain⟨d,b⟩:=h;refine⟨d,?_⟩;obtain b|⟨g,cap,a,rfl,l,o,r⟩:=b
 .exact .inl b
 exact .inr ⟨g,cap,a,rfl,l,(p g rfl).trans o,r⟩
def bU{e:Zf}{v:Zb}{c:Y0}(h:w.ownsRow k e j v n c)(l:i<=k):w.ownsRow i e j v n c:=by
 obtain⟨d,b⟩:=h;refine⟨d,?_⟩;obtain b|⟨g,cap,a,rfl,o,r⟩:=b
 .exact .inl b
 exact .inr ⟨g,cap,a,rfl,by omega,r⟩
def eX{e:Zf}{v:Zb}{c:Y0}(h:w.ownsRow i e j v n c){k:Nat}(b:v.ownBlock=some k):∃C m,w.heap[k]?=some (.cells C e m):=by obtain⟨a,h⟩:=xu h k b;exact⟨a,_,h⟩
def gZ{C c:Y_}{e b:Zf}{m h:Nat×Nat}(d:w.heap[n]?=some (.cells C e m))(a:w.heap[k]?=some (.cells c b h))(g:e≠b):n≠k:=by rintro rfl;rw[d]at a;injection a with a;injection a with _ a _;exact g a
def Ak.aL{w':Za}(h:Ak w G I u)(b:∀k,G k->H k)(a:∀k,u.ownBlock=some k->w'.heap[k]?=w.heap[k]?):Ak w' H I u:=⟨cN h.1 a,λk a=>b k<|h.2 k a⟩
def B_.aL{w':Za}{l:fG}{t:bV}(h:B_ w G l t)(b:∀k,G k->H k)(c:∀k,G k->w'.heap[k]?=w.heap[k]?):B_ w' H l t:=by obtain⟨d,⟨cv,p,q,e⟩,x,g,y,j⟩:=h;exact⟨b _ d,⟨cv,(c _ d).trans p,cN q λk a=>c k<|e k a,λk a=>b k<|e k a⟩,cN x λk a=>c k<|g k a,λk a=>b k<|g k a,y,λi r u n o=>(j i r u n o).aL b λk a=>c k<|(j i r u n o).2 k a⟩
def pY.aL{w':Za}{a:Y5}(h:pY w G n a K)(z:w.heap.size<=w'.heap.size)(b:∀k,G k->w'.heap[k]?=w.heap[k]?):pY w' G n a K:=by obtain⟨j,e,⟨B,o,p,g⟩,q,r,u,x⟩:=h;exact⟨λk d=>VT (j k d) z,e,⟨B,(b _ e).trans o,cN p λk c=>b k<|g k c,g⟩,q,λi l t y A=>(r i l t y A).aL (λk d=>d) b,u,x⟩
def pY.below{a:Y5}(h:pY w G n a K)(b:qB w W):pY W G n a K:=h.aL b.size λk hk=>b.block k<|h.lt k hk
def pY.put{b:Nat}{c:Y5}(h:pY w G b c K){l:fG}{t:bV}(p:c[i]?=some l)(X:K[i]?=some t){S:Y0}
 (A:∀k,G k->H k)(M:∀k,H k->k<W.heap.size)(a:∀k,G k->k≠l.n->l.a.ownBlock≠some k->W.heap[k]?=w.heap[k]?)
 (L:B_ W H ⟨l.n,z,S⟩ ⟨t.name,t.a,N⟩)(J:∀k,z.ownBlock=some k->l.a.ownBlock=some k\/w.heap.size<=k)(P:ec<|cm K i N):
 pY W H b (c.set i ⟨l.n,z,S⟩) (cm K i N):=by
 have O:=h.c i l t p X;obtain⟨Z,F,_,_⟩:=O.q;have hi:i<c.length:=by
  obtain h|h:=Wx i c.length
  .exact h
  rw[V7 h]at p;cases p
 have I:∀{e:Zf} {k:Nat} {C:Y_} {m:Nat×Nat},w.heap[k]?=some (.cells C e m)->e≠94->e≠32->k≠l.n/\l.a.ownBlock≠some k:=by intro e k C m hk j q;refine⟨gZ hk F j,λd=>?_⟩;obtain⟨r,u,g⟩:=eX O.rows d;exact gZ hk g q rfl
 have o:∀{base:Nat} {e:Zf} {size n:Nat} {v:Zb} {Y:Y0},w.ownsRow base e size v n Y->(∀k,v.ownBlock=some k->G k)->e≠94->e≠32->∀k,v.ownBlock=some k->W.heap[k]?=w.heap[k]?:=by intro base e size n v Y x u j q k hk;obtain⟨C,m,r⟩:=eX x hk;obtain⟨d,g⟩:=I r j q;exact a k (u k hk) d g
 obtain⟨tv,B,D,E⟩:=h.box;refine⟨M,A _ h.own,⟨tv,?_,?_,λk hk=>A k<|E k hk⟩,by rw[Wu,kD];exact h.len,?_,?_,P⟩
 .obtain⟨d,g⟩:=I B (by decide) (by decide);rw[a b h.own d g];exact B
 ·rw [kD];have:(c.set i ⟨l.n,z,S⟩).map gC=c.map gC:=by
   rw[List.map_set];apply WX;intro j;rw[Wq];split
   .rename_i e;subst e;split
    .rw[VO,p];rfl
    rename_i d;simp at d;omega
   rfl
  rw[this];exact cN D<|o D E (by decide)<|by decide
 .intro j m s g hs;rw[Wq]at g;unfold cm at hs;rw[X6]at hs;by_cases d:i=j
  .subst d;rw[VG rfl,VG hi]at g;simp at g;subst g;rw[X]at hs;simp at hs;subst hs;exact L
  rw[VF d]at g;have q:K[j]?=some s:=by
   cases hd:K[j]? with
   |none=>rw[hd]at hs;simp at hs
   |some x=>rw[hd]at hs;simp[d]at hs;rw[hs]
  obtain⟨ap1,ap2⟩:=h.apart i j l m d p g;obtain⟨y,⟨cv,Q,R,T⟩,U,V,g7,g8⟩:=h.c j m s g q
  have k1:W.heap[m.n]?=w.heap[m.n]?:=a m.n y (WN ap1) (λe=>by
   obtain⟨C',m',h'⟩:=eX O.rows e
   exact gZ Q h' (by decide) rfl)
  refine⟨A _ y,⟨cv,k1.trans Q,cN R<|o R T (by decide)<|by decide,λk hk=>A k<|T k hk⟩,cN U λk hk=>?_,λk hk=>A k<|V k hk,g7,λx r u hr hu=>?_⟩
  .obtain⟨C,mm,hc⟩:=eX U hk;exact a k (V k hk) (gZ hc F<|by decide) λe=>ap2 k e hk
  have:=g8 x r u hr hu;exact this.aL A<|o this.1 this.2 (by decide)<|by decide
 .intro x y Q R q g d;rw[Wq]at g d;by_cases j:i=x
  .subst j;rw[VG rfl,VG hi]at g;rw[VF q]at d;simp at g;subst g;obtain⟨T,U⟩:=h.apart i y l R q p d;refine⟨T,λk hk r=>?_⟩;obtain u|u:=J k hk
   .exact U k u r
   have hs:∃s,K[y]?=some s:=by
    have:y<K.length:=by
     rw[<-h.len];obtain h|h:=Wx y c.length
     .exact h
     rw[V7 h]at d;cases d
    exact⟨_,VE this⟩
   obtain⟨s,hs⟩:=hs;have:=h.lt k<|(h.c y R s d hs).a k r;omega
  rw[VF j]at g;by_cases r:i=y
  .subst r;rw[VG rfl,VG hi]at d;simp at d;subst d;obtain⟨U,V⟩:=h.apart x i Q l (WN j) g p;refine⟨U,λk hk u=>?_⟩;obtain T|T:=J k u
   .exact V k hk T
   have hs:∃s,K[x]?=some s:=by
    have:x<K.length:=by
     rw[<-h.len];obtain h|h:=Wx x c.length
     .exact h
     rw[V7 h]at g;cases g
    exact⟨_,VE this⟩
   obtain⟨s,hs⟩:=hs;have:=h.lt k<|(h.c x Q s g hs).a k hk;omega
  rw[VF r]at d;exact h.apart x y Q R q g d
def Ul(c:Int)(n:Nat)(w:Za)(b:bK c)(h:0<n)(i:n<=9223372036854775807):
 Zc prog 53 #[qI c,qI (n:Nat)] w (qE (qI (xy c n:Nat)) w):=by
 obtain⟨d,g⟩:=b;unfold xy;by_cases a:c<0
 .obtain⟨k,rfl⟩:∃k:Nat,c=-(k:Int)-1:=⟨(-(c+1)).toNat,by omega⟩;rw[VG a];have e:(-(-(k:Int)-1+1)).toNat=k:=by omega
  rw[e];go_in;go_wp2;go_ret;exact⟨fQ<|by go_num,rfl⟩
 .obtain⟨k,rfl⟩:∃k:Nat,c=(k:Int):=⟨c.toNat,by omega⟩;rw[VF a];go_in;go_wp2;go_ret;exact⟨fQ<|by go_num,rfl⟩
def uQ(h:∀(j:Nat)(t:bV),K[j]?=some t->t.name≠X):bO K X=none:=by unfold bO;rw[Ym];intro t b;obtain⟨j,a⟩:=Wn.1 b;simpa using h j t a
def uR{t:bV}(h:∀(j:Nat)(s:bV),j<i->K[j]?=some s->s.name≠X)(a:K[i]?=some t)(c:t.name=X):bO K X=some i:=by
 unfold bO;have hi:i<K.length:=by
  obtain h|h:=Wx i K.length
  .exact h
  rw[V7 h]at a;cases a
 rw[Xj];refine⟨hi,?_,λj b=>?_⟩
 .rw[VE hi]at a;simp at a;rw[a];simpa using c
 have:=h j _ b<|VE (by omega);simpa using this
def iA(lay:Y5):Option Nat->Zb
 |some i=>gC<|lay.getD i ⟨0,qN,[]⟩
 |none=>.pointer none
def pY.slice{b:Y5}(h:pY w G n b K):∃a c,w.heap[n]?=some (.cells #[.slice a K.length c] 77)/\∀(i:Nat)(l:fG),b[i]?=some l->∃g,a=some ⟨g,0,none⟩/\g<w.heap.size/\w.cell? ⟨g,i,none⟩=some (gC l):=by
 obtain⟨z,j,p,t⟩:=h.box;obtain⟨rfl,e⟩|⟨g,cap,o,rfl,u,k,x,y,hs,r⟩:=p.2
 .refine⟨none,0,by rw[e];exact j,λi l d=>?_⟩;rw[V3.1<|h.len.trans e]at d;simp at d
 refine⟨_,cap,j,λi l q=>⟨g,rfl,lB k,?_⟩⟩;have d:(b.map gC)[i]?=some (gC l):=by rw[VO,q];rfl
 rw[<-r,V6]at d;split at d
 .rw[bC k];simpa using d
 cases d
def FN(b:YX){c:Y5}(h:pY w G n c K):
 Zc prog 101 #[qP n,qT b] w (qE (iA c<|bO K b) w):=by
 obtain⟨N,tc,q,(B:Ze _)⟩:=h.slice;have H:=lB q;have c0:=bC q;have F:K.length<=6:=h.ok.1;have z:=Z h;generalize E:iA c (bO K b)=out;have A:=Z E;go_in;go_wp2
 go_loop [12] (λa=>∃i:Nat,i<=K.length/\a=qI i/\Ze (∀(j:Nat) (t:bV),j<i->K[j]?=some t->t.name≠b)) (λa=>K.length-(Zk a).toNat)
 exact⟨0,qO,rfl,λj t r=>by omega⟩
 case round=>
  obtain⟨i,hi,rfl,x⟩:=hrel;by_cases o:i<K.length
  .have d:K[i]?=some K[i]:=VE o;have k:c[i]?=some (c[i]'(z.len▸o)):=VE _;generalize c[i]'(z.len▸o)=l at*;generalize K[i]=t at*;obtain⟨g,rfl,I,C⟩:=B.o i l k;obtain⟨cv,p,_,_⟩:=(z.c i l t k d).q;have J:=bC p;have D:=lB p;unfold gC at C;by_cases u:t.name=b
   ·obtain ⟨L,M⟩:=kj u;have y:Ze<|out=qP l.n:=by
     unfold Ze;rw[<-A,uR x d u];simp[iA,List.getD,k,gC]
    go_wp2;go_ret;exact⟨by rw[y];rfl,rfl⟩
   obtain⟨L,M⟩:=ku u;have y:Ze (∀(j:Nat) (s:bV),j<i+1->K[j]?=some s->s.name≠b):=λj s r hs=>by
    by_cases e:j=i
    .subst e;rw[d]at hs;cases hs;exact u
    exact x j s (by omega) hs
   go_wp2;go_round;exact⟨i+1,by omega,by go_num,y⟩;simp[Zk];omega
  have d:Ze<|out=.pointer none:=by
   unfold Ze
   rw [<-A,uQ (λj t r=>x j t (by
    have:j<K.length:=by
     obtain h|h:=Wx j K.length
     .exact h
     .rw[V7 h]at r;cases r
    omega) r)]
   rfl
  go_wp2;go_ret;exact⟨by rw[d];rfl,rfl⟩
def pW{a:List (YX×Int)}{v:Zb}(h:w.ownsRow n 97 2 v a.length<|EJ a):br w w.heap.size 2 OT a v:=c7 (f:=OT) (λx=>rfl) h qZ
def cz{e:Zf}{v:Zb}{l:Y0}(h:w.ownsRow k e i v n l):∃a c,v=.slice a n c/\n<=c:=by
 obtain⟨rfl,d⟩|⟨g,cap,b,rfl,_,_,j,_⟩:=h.2
 .exact⟨none,0,by rw[d],by omega⟩
 exact⟨_,_,rfl,j⟩
def gX(cs:List<|YX×Int):List YX:=cs.map (·.1)
def I5{b:List (YX×Int)}(x:Nat)(z:w.ownsRow x 97 2 u b.length<|EJ b)(hl:b.length<=1000):
 Zc prog 102 #[u] w (qF (.bool<|nr<|gX b) w):=by
 obtain⟨X,P,rfl,M⟩:=cz z;have K:=Z<|pW z;generalize V:nr (gX b)=out;have O:=Z V;go_in;go_wp2
 go_loopw [9] (λa wr=>∃i:Nat,i<=b.length/\a=qI i/\Ze (qB w wr)/\Ze (out=ig (gX<|b.take i) (gX<|b.drop i))) (λa _=>b.length-(Zk a).toNat)
 exact⟨0,qO,rfl,qW,by rw[<-O];rfl⟩
 case round=>
  obtain⟨i,hi,rfl,HB,E⟩:=hrel;have y:=HB.size;by_cases A:i<b.length
  .have B:b[i]?=some b[i]:=VE A;have r:Ze<|b.drop i=b[i]::b.drop (i+1):=VJ A;have G:Ze<|b.take (i+1)=b.take i++[b[i]]:=by rw[Ze,V9,B];rfl
   generalize b[i]=c at*;obtain⟨g,cap,R,hg,Y,e1⟩:=(K.aL λk hk=>HB.block k hk).d B;cases R;have⟨T,U⟩:g<wr.heap.size/\i<=P:=by omega
   obtain⟨C,rfl⟩:∃C:Za,C=wr:=⟨_,rfl⟩;go_wp2
   go_loopw [18] (λa wr=>∃j:Nat,j<=i/\a=qI j/\Ze (qB C wr)/\wr.cell? ⟨C.heap.size,0,none⟩=some (qT c.1)/\C.heap.size<wr.heap.size/\Ze (∀q d,q<j->b[q]?=some d->d.1≠c.1)) (λa _=>i-(Zk a).toNat)
   exact⟨0,qO,rfl,qA,by simp,by simp,λq d l=>by omega⟩;obtain⟨j,hj,rfl,n,Q,J,t⟩:=hrel;by_cases I:j<i
   .have p:b[j]?=some (b[j]'(by omega)):=VE _;generalize b[j]'(by omega)=d at*;have h:=Z<|HB.trans<|n.mono y;obtain⟨g2,L,H,S,f0,f1⟩:=(K.aL λk hk=>h.block k hk).d p;cases H;have N:g<wr.heap.size:=by omega
    by_cases l:d.1=c.1
    ·obtain ⟨F,W⟩:=kj l;have o:Ze<|out=true:=by
      unfold Ze;rw[E,r];show ig _ (c.1::gX (b.drop<|i+1))=true;rw[ig];have D:c.1∈gX (b.take i):=by unfold gX;rw[VV];refine⟨d,?_,l⟩;rw[Wn];exact⟨j,by rw[V6,VG I];exact p⟩
      simp[D]
     go_wp2;go_ret;exact⟨by rw[o];rfl,h.alloc h.size _⟩
    obtain⟨qa,qb⟩:=ku l;have F:Ze (∀q D,q<j+1->b[q]?=some D->D.1≠c.1):=λq D W o=>by
     by_cases e:q=j
     .subst e;rw[p]at o;cases o;exact l
     exact t q D (by omega) o
    go_wp2;go_roundw;exact⟨j+1,by omega,by go_num,n.alloc n.size _,(VK<|V2 wr _ _ J).trans Q,by simp;omega,F⟩;simp[Zk];omega
   have o:=Z<|HB.trans<|n.mono y;have p:Ze<|out=ig (gX<|b.take<|i+1) (gX<|b.drop<|i+1):=by
    unfold Ze;rw[E,r,G];show ig _ (c.1::gX (b.drop<|i+1))=_;rw[ig];have F:(gX<|b.take i).contains c.1=false:=by
     rw[Xm];intro h;rw[WM]at h;unfold gX at h;rw[VV]at h;obtain⟨d,hd,D⟩:=h;obtain⟨q,l⟩:=Wn.1 hd;rw[V6]at l;split at l
     .exact t q d (by omega) l D
     cases l
    rw[F,Yq];unfold gX;rw[Wc];rfl
   go_wp2;go_roundw;exact⟨i+1,by omega,by go_num,o,p⟩;simp[Zk];omega
  obtain rfl:i=b.length:=by omega
  have c:Ze<|out=false:=by unfold Ze;rw[E,Wa];rfl
  go_wp2;go_ret;exact⟨by rw[c];rfl,HB⟩
def l8(ts:Y6)(cs:List<|YX×Int):Option Nat:=if ts.length≠cs.length then some 3 else eI ts (cs.map (·.2))
def fu(h:aT F R M=some n):n=2\/n=3:=by
 unfold aT at h;cases ht:bD F R with
 |error e=>rw[ht]at h;cases h;exact fB ht
 |ok a=>
  rw[ht]at h;simp only at h;split at h
  .cases h
  cases h;exact .inr rfl
def FC{d:List (YX×Int)}{b:List (aA×Zb)}(hr:i4 w)(hg: 9<w.heap.size)(hn:n<w.heap.size)(hc:w.cell? ⟨n,1,none⟩=some A)(F:br w w.heap.size 2 OT d A)(aj:d.length<=1000)(ht:jU w w.heap.size b z)(X:∀p∈b,cY p.1)(hl:b.length<=1000):
 Zc prog 103 #[.pointer<|some ⟨n,0,none⟩,z] w (CT w [] (b.map (·.1))<|l8 (b.map (·.1)) d):=by
 obtain⟨ta,tc,rfl⟩:=ht.1.slice;obtain⟨ca,cc,rfl⟩:=F.slice;obtain⟨i0,hi,aa,ab,ac⟩:=V5 Kc;have HT:=Z ht;have M:=Z F;have O:Ze (∀w' p,qB w w'->p∈b->nh w' p.1 p.2 [] (.slice none 0 0)):=λw' p hb hp=>
  (nh.mk hr hg (ht.2 p hp) (X p hp) ⟨none,0,rfl,λh=>absurd rfl h⟩<|by simp).below hb
 generalize ho:l8 (b.map (·.1)) d=o;have HO:=Z ho;by_cases j:b.length=d.length
 ·have P:Ze<|eI (b.map (·.1)) (d.map (·.2))=o:=by
   rw[Ze,<-HO];rw[l8,VF<|by simp[j]]
  have ao:(((b.length:Nat):Int) != ((d.length:Nat):Int))=false:=by simp;omega
  have D:=Z j;clear j;go_in;go_wp2
  go_loopw [6,21] (λs6 ad wr=>∃(i:Nat) (L:List<|aA×Zb),i<=b.length/\ad=.int .i64 i/\Ze (uV w wr [] b o (eI ((b.drop i).map (·.1))<|(d.drop i).map (·.2)) i s6 L)) (λ_ a _=>b.length-(Zk a).toNat)
  exact⟨0,[],qO,rfl,qW,VP _ _ _ _,rfl,rfl,P.symm,by simp⟩;obtain⟨i,L,an,rfl,r⟩:=hrel;have h:=r.1;obtain⟨va,vn,vc,rfl⟩:=aF r.2.1;have S:=h.size;by_cases y:i<b.length
  .have H:b[i]?=some b[i]:=VE y;have HD:Ze<|b.drop i=b[i]::b.drop (i+1):=VJ y;have G:=VQ y;generalize b[i]=p at*;have E:i<d.length:=by have:=D.o;omega
   have T:d[i]?=some d[i]:=VE E;have C:Ze<|d.drop i=d[i]::d.drop (i+1):=VJ E;generalize d[i]=c at*;obtain⟨pt,pv⟩:=p;obtain⟨cn,ct⟩:=c;obtain⟨g,cap,he,al,e0⟩:=(HT.1.aL λk hk=>h.block k hk).c H;cases he;obtain⟨g2,ae,U,ag,f0,f1⟩:=(M.aL λk hk=>h.block k hk).d T;cases U;have⟨am,af,ap⟩:g<wr.heap.size/\g2<wr.heap.size/\n<wr.heap.size:=by omega
   have ak:wr.cell? ⟨n,1,none⟩=some (.slice (some ⟨g2,0,none⟩) d.length cc):=(VK<|h.block n hn).trans hc;simp only at e0 f0 f1;have HB:=Z h;go_wp2_with apply(Z<|qe ct<|O wr _ h G).mono;rintro e w2⟨(l:Ze _),Y⟩;have ai:=l.size;obtain⟨R,t,rfl⟩|⟨u,t,rfl,q⟩:=Y
   .have B:((R:Int) != 0)=true:=by have:=fu t;simp;omega
    have x:Ze<|o=some R:=by unfold Ze;rw[r.2.2.2.2.1,HD,C];simp only[We,eI];rw[t]
    go_wp2;go_ret2;exact⟨(HB.trans<|l.mono S).alloc (by omega) _,.inl ⟨R,x,rfl⟩⟩
   obtain⟨I,K,J,rfl⟩:=q.slice;have Q:=Z q;have HN:Ze<|eI ((b.drop i).map (·.1)) ((d.drop i).map (·.2))=eI ((b.drop<|i+1).map (·.1)) ((d.drop<|i+1).map (·.2)):=by unfold Ze;rw[HD,C];simp only[We,eI];rw[t]
   go_wp2_with (at_builtin;refine Wv _ rfl (.tmp 42) (.tmp 44) 195 rfl w.heap.size 204 i0 _ 1 24 underlying195 hi aa ab ac rfl (by decide) _ _ _ rfl (((aB l r.2.1).alloc _).alloc _) ⟨w2.heap.size+1,0,none⟩ 1 1 [.slice I K J] rfl rfl ?c1 ?c2 ?c3 ?c4 ?c5 ?_)
   case c1=>exact uC w2 _ [.slice I K J] 204
   case c2=>intro x hx;simp at hx;subst hx;rfl
   case c3=>unfold Zj;omega
   case c4=>omega
   case c5=>simp;omega
   intro v' w4 B V ah W
   have N:=Z (r.next (w2:=(w2.alloc<|.cells #[.slice I K J] 204).alloc<|.cells #[.slice I K J] 204) (v':=v') (cv:=.slice I K J) H HN ((l.alloc l.size _).alloc (by simp;omega) _) ((iE.aL Q (λk hk=>by
    have:=hk.2
    rw[V2 _ _ _ (by simp;omega),V2 _ _ _<|by omega])).mono λk hk=>⟨hk.1,by have:=hk.2;simp;omega⟩) B V<|by simpa using W)
   go_wp2;go_roundw;exact⟨i+1,_,by omega,by go_num,N⟩;simp[Zk];omega
  obtain rfl:i=b.length:=by omega
  have c:Ze<|o=none:=by rw[Ze,r.2.2.2.2.1,Wa];rfl
  have g:Ze<|L.map (·.1)=b.map (·.1):=by rw[Ze,r.2.2.1,Wj]
  go_wp2;go_ret2;exact⟨r.1,.inr ⟨c,L,_,g,rfl,r.end⟩⟩
 .have a:Ze<|o=some 3:=by rw[Ze,<-HO];rw[l8,VG<|by simpa using j]
  have c:(((b.length:Nat):Int) != ((d.length:Nat):Int))=true:=by simp;omega
  go_in;go_wp2;go_ret2;exact⟨qW,.inl ⟨3,a,rfl⟩⟩
structure fW(lo:Nat)(w:Za)(M:Y7)(b:Nat)(D:aI)(w':Za)(M':Y7)(lay:Y5):Prop where
 a:pY w' M' b lay D
 sub:∀k,M k->M' k
 new:∀k,M' k->M k\/lo<=k
 aL:KP (λk=>k<w.heap.size/\¬M k) w w'
def fW.below{b:Y5}(h:pY w G i b K)(a:qB w W):fW n w G i K W G b:=
 ⟨h.below a,λk hk=>hk,λk hk=>.inl hk,⟨a.os,a.tape,a.output,a.size,λk hk=>a.block k hk.1⟩⟩
def grown(M:Y7)(w w':Za):Nat->Prop:=λk=>M k\/(w.heap.size<=k/\k<w'.heap.size)
def bw{α:Type}{l:List α}{i:Nat}{x:α}(h:l[i]?=some x):i<l.length:=by
 obtain a|a:=Wx i l.length
 .exact a
 rw[V7 a]at h;cases h
def OR{w3:Za}{b:Nat}{q:Y5}(h:pY w G b q K){l:fG}{t:bV}(X:q[i]?=some l)(Y:K[i]?=some t)(B:qB w w3)(Z:w3.ownsRow w.heap.size 34 3 u I.length<|c_ I)
 (p:W.ownsRow 0 32 1 z (t.rows.length+1)<|l.us++[u])(A:w3.grownBy W l.a.ownBlock)(R:z.ownBlock=l.a.ownBlock\/z.ownBlock=some w3.heap.size)(S:ec<|cm K i<|t.rows++[I]):
 (∃cv,W.heap[l.n]?=some (.cells #[qT t.name,cv,l.a] 94)) /\
 fW w.heap.size w G b (cm K i<|t.rows++[I]) (W.setCell ⟨l.n,2,none⟩ z) (grown G w W) (q.set i ⟨l.n,z,l.us++[u]⟩):=by
 have d:=h.c i l t X Y;obtain⟨cv,N,U,V⟩:=d.q;have M:=B.size;have aa:=A.size;have Q:=h.lt _ d.own;have E:∀k,k<w.heap.size->l.a.ownBlock≠some k->W.heap[k]?=w.heap[k]?:=λk hk g=>by rw[A.block k (by omega) λe=>g e.symm,B.block k hk]
 have H:l.a.ownBlock≠some l.n:=λe=>by obtain⟨C,m,j⟩:=eX d.rows e;exact gZ j N (by decide) rfl
 have D:W.heap[l.n]?=some (.cells #[qT t.name,cv,l.a] 94):=(E _ Q H).trans N;refine⟨⟨cv,D⟩,?_⟩;have a:∀k,k<w.heap.size->k≠l.n->l.a.ownBlock≠some k->(W.setCell ⟨l.n,2,none⟩ z).heap[k]?=w.heap[k]?:=λk hk g o=>by rw[VN _ _ _ _ g];exact E k hk o
 have F:∀{base:Nat} {e:Zf} {size n:Nat} {v:Zb} {xs:Y0},w.ownsRow base e size v n xs->(∀k,v.ownBlock=some k->G k)->e≠94->e≠32->∀k,v.ownBlock=some k->(W.setCell ⟨l.n,2,none⟩ z).heap[k]?=w.heap[k]?:=by intro base e size n v xs j P L O k hk;obtain⟨C,m,r⟩:=eX j hk;refine a k (h.lt k<|P k hk) (gZ r N L) λx=>?_;obtain⟨C',m',J⟩:=eX d.rows x;exact gZ r J O rfl
 have T:∀k,z.ownBlock=some k->k≠l.n:=λk hk e=>by
  subst e;obtain j|j:=R
  .rw[j]at hk;exact H hk
  rw[j]at hk;injection hk with hk;omega
 have y:∀k,G k->grown G w W k:=λk hk=>.inl hk;have c:∀k,u.ownBlock=some k->w.heap.size<=k/\k<w3.heap.size:=λk hk=>Z.lt k hk;refine⟨h.put X Y y (λk hk=>?_) (λk hk g o=>a k (h.lt k hk) g o) ?_ (λk hk=>?_) S,y,λk hk=>hk.imp id λh=>h.1,?_⟩
 .rw[size_set];obtain hk|hk:=hk
  .have:=h.lt k hk;omega
  exact hk.2
 .refine⟨y _ d.own,⟨cv,?_,?_,λk hk=>y k<|V k hk⟩,?_,λk hk=>?_,λhn=>?_,λj r x J L=>?_⟩
  .have:=bS D 2 z;simpa using this
  .exact cN U<|F U V (by decide)<|by decide
  .simp only[VH,V_];exact cN p λk hk=>VN _ _ _ _<|T k hk
  .obtain O|O:=R
   .have C:z.ownBlock=some k:=hk;rw[O]at C;exact y k<|d.a k C
   have C:z.ownBlock=some k:=hk;rw[O]at C;cases C;refine .inr ⟨M,?_⟩;exact(p.lt _ hk).2
  .simp at hn
  have C:l.us.length=t.rows.length:=by have:=d.rows.1;omega
  by_cases hj:j<t.rows.length
  .rw[VU hj]at J;rw[VU<|by omega]at L;have:=d.each j r x J L;exact this.aL y<|F this.1 this.2 (by decide)<|by decide
  have O:j=t.rows.length:=by have:=bw J;simp at this;omega
  subst O;simp at J;rw[<-C]at L;simp at L;subst J;subst L;refine⟨cN (bU Z qO) λk hk=>?_,λk hk=>.inr ⟨(c k hk).1,by have:=(c k hk).2;omega⟩⟩;have P:=c k hk;rw[VN _ _ _ _ (show k≠l.n by omega)];exact A.block k P.2 (λe=>by have:=h.lt k<|d.a k e.symm;omega)
 .obtain j|j:=R
  .rw[j]at hk;exact .inl hk
  rw[j]at hk;cases hk;exact .inr M
 .refine⟨A.os.trans B.os,A.tape.trans B.tape,A.output.trans B.output,by rw[size_set];omega,λk hk=>a k hk.1 (λe=>hk.2<|e▸d.own) λe=>hk.2<|d.a k e⟩
def fW.low{a:Y5}(h:fW n w G j K W H a)(b:i<=n):fW i w G j K W H a:=⟨h.a,h.sub,λk hk=>(h.new k hk).imp id λh=>Wf b h,h.aL⟩
def nj(lo:Nat)(w:Za)(M:Y7)(b:Nat)(o:aI×iW)(e:Zg)(w':Za):Prop:=
 e=.returned (.tuple #[qI o.2.count,qI (o.2.err:Nat)])/\∃M' lay',fW lo w M b o.1 w' M' lay'
def iN:(prog.info? 32).map (λi=>(i.zero,i.size,i.bytes))=some (some qN,1,24):=by kernel_rfl
def kF:∀{a:Y6}{e:Nat},bH F I a=.error e->e=4\/e=5
 |[],e,h=>by simp[bH]at h
 |t::a,e,h=>by
  unfold bH at h;cases ht:bZ F I t with
  |error e'=>rw[ht]at h;cases h;exact jc ht
  |ok v=>
   rw[ht]at h;simp only at h;cases hs:bH F I a with
   |error e'=>rw[hs]at h;cases h;exact kF hs
   |ok vs=>rw[hs]at h;cases h
def vK:∀{a:Y6}{g:List Int},a.length=g.length->eI a g=none->∀t∈a,∃d,bD [] t=.ok d
 |[],_,_,_,t,h=>by cases h
 |t::a,[],hl,_,_,_=>by simp at hl
 |t::a,w::g,hl,h,u,c=>by
  unfold eI at h;cases ha:aT [] t w with
  |some e=>rw[ha]at h;cases h
  |none=>
   rw[ha]at h;obtain rfl|c:=V8.1 c
   .obtain⟨d,b,_⟩:=gv ha;exact⟨d,b⟩
   exact vK (by simpa using hl) h u c
structure xX(w:Za)(M:Y7)(b:Nat)(lay:Y5)(D:aI):Prop where
 a:pY w M b lay D
 rules:i4 w
 d:¬M 9/\9<w.heap.size
def xX.below{a:Y5}(h:xX w G n a K)(b:qB w W):xX W G n a K:=
 ⟨h.a.below b,h.rules.aL<|b.block _ h.d.2,h.d.1,VT h.d.2 b.size⟩
def oG{a:Y5}(h:pY w G n a K)(b:i<K.length):∃l,a[i]?=some l/\K[i]?=some (ak K i)/\iA a (some i)=qP l.n:=by
 have c:i<a.length:=by rw[h.len];exact b
 refine⟨a[i],VE c,?_,?_⟩
 .unfold ak;rw[Wm,VE b];rfl
 simp[iA,List.getD,VE c,gC]
def sw{s:aX}(h:bO K s.table=none):dI K s=(K,di 2):=by unfold dI;rw[h]
def qi{s:aX}(h:bO K s.table=some i)(a:l8 (s.c.map (·.aW)) (ak K i).a=some n):dI K s=(K,di n):=by
 unfold dI;rw[h];unfold l8 at a;simp only[VL]at a;simp only;by_cases b:s.c.length=(ak K i).a.length
 .rw[VF λc=>c b]at a ⊢;rw[a]
 rw[VG b]at a ⊢;cases a;rfl
def yV{s:aX}(h:bO K s.table=some i)(a:l8 (s.c.map (·.aW)) (ak K i).a=none):s.c.length=(ak K i).a.length/\eI (s.c.map (·.aW)) ((ak K i).a.map (·.2))=none/\dI K s=match bH [] [] (s.c.map (·.aW))with
 |.error e=>(K,di e)
 |.ok row=>if (ak K i).rows.length=25 then (K,di 6)else (cm K i<|(ak K i).rows++[row],⟨[],1,0⟩):=by
 unfold l8 at a;simp only[VL]at a;by_cases b:s.c.length=(ak K i).a.length
 .rw[VF λc=>c b]at a;refine⟨b,a,?_⟩;unfold dI;rw[h];simp only;rw[VF λc=>c b,a];simp only;cases bH [] [] (s.c.map (·.aW))<;>rfl
 .rw[VG b]at a;cases a
def DC:∀{d:Y6}{b:List Int}{a:Nat},eI d b=some a->a=2\/a=3
 |[],b,a,h=>by cases b<;>simp[eI]at h
 |t::d,[],a,h=>by simp[eI]at h
 |t::d,c::b,a,h=>by
  unfold eI at h;cases ha:aT [] t c with
  |some e=>rw[ha]at h;cases h;exact fu ha
  |none=>rw[ha]at h;exact DC h
def Jn{b:Y6}{a:List (YX×Int)}(h:l8 b a=some n):n=2\/n=3:=by
 unfold l8 at h;split at h
 .cases h;exact .inr rfl
 exact DC h
def PX(X:dD)(P:Nat)(s:aX)(hs:eL s)(hk:s.aC=105){ts:List (aA×Zb)}(N:ts.map (·.1)=s.c.map (·.aW)){ai:Y5}(h:xX w G k ai K)(ap:P<=w.heap.size)
 (hn:w.heap[n]?=some (.cells #[qT s.table,z] 194))(ht:jU w w.heap.size ts z):
 Zc prog 66 #[qP k,qP n] w (nj P w G k<|dI K s):=by
 have HS:=Z hs;have aK:=lB hn;have n0:=bC hn;have Q:=Z<|FN s.table h.a;have HN:=Z hn;have HT:=Z ht;have H:=Z h;have am:=Z N;have ab:ts.length<=1000:=by have:=Wd List.length N;simp at this;have:=hs.len;omega
 have aj:Ze (∀p∈ts,cY p.1):=λp hp=>by
  have:p.1∈s.c.map (·.aW):=by rw[<-N];exact V0 hp
  obtain⟨g,b,d⟩:=VV.1 this;rw[<-d];exact hs.c (by omega) g b
 generalize an:dI K s=out;have a:=Z an;have A:Ze (∀B O,out=(K,di B)->qB w O->nj P w G k out (.returned<|.tuple #[qI 0,qI (B:Nat)]) O):=λB O ho hb=>by rw[ho];exact⟨rfl,G,ai,fW.below h.a hb⟩
 have W:Ze (∀O M' r D' (c:Int),out=(D',⟨[],c,0⟩)->fW P w G k D' O M' r->nj P w G k out (.returned<|.tuple #[qI c,qI 0]) O):=λO M' r D' c ho M=>by rw[ho];exact⟨rfl,M',r,M⟩
 generalize nj P w G k out=ax at*;cases hta:bO K s.table with
 |none=>
  rw[hta]at Q;have b:=Z<|A 2 w (by rw[<-a];exact sw hta) qW;simp only[iA]at Q;go_in;go_wp2_with apply qS Q;go_wp2;exact b
 |some i=>
  obtain⟨l,(HL:Ze _),(U:Ze _),af⟩:=oG H.a<|cx hta;rw[hta,af]at Q;have hT:=H.a.c i l _ HL U;have E:=H.a.ok.2 _<|dS<|cx hta;have T:=Z hta;obtain⟨cv,(y:Ze _),ao,_⟩:=hT.q;have l1:=bC y 1;have l2:=bC y;simp at l1;have ac:=lB y;have aJ:=E.b;have HC:=Z<|FC H.rules H.d.2 ac l1 (pW ao) (by omega) HT aj ab;rw[am]at HC;have V:=Z hT;go_in;go_wp2_with apply qS Q;go_wp2_with refine HC.mono ?_;rintro e w2⟨(F:Ze _),aq⟩;obtain⟨B,b,rfl⟩|⟨b,ps,pv,L,rfl,ae⟩:=aq
  .have g:((B:Int) != 0)=true:=by have:=Jn b;simp;omega
   have d:=Z<|A B w2 (by rw[<-a];exact qi T b) F;go_wp2;exact d
  obtain⟨e1,e2,(t:Ze _)⟩:=yV T b;have J:∀p∈ps,gR [] p.1:=λp hp=>by
   have j:p.1∈s.c.map (·.aW):=by rw[<-L];exact V0 hp
   refine⟨?_,vK (by simpa using e1) e2 _ j⟩;obtain⟨x,o,q⟩:=VV.1 j;rw[<-q];exact HS.c (by omega) x o
  have au:br w2 w2.heap.size 3 vC ([]:YW) qN:=⟨none,0,rfl,λh=>absurd rfl h⟩;have HR:=Z<|vF X ae au J ⟨λv hv=>(by cases hv),by simp⟩ (by have:=Wd List.length L;simp at this;have:=HS.len;omega);rw[L]at HR;have ag:=F.size;go_wp2_with refine HR.mono ?_;rintro e w3⟨Y,ar⟩;have g:=Z<|F.trans<|Y.mono ag;have aL:=Y.size;obtain⟨B,d,rfl⟩|⟨row,u,d,rfl,hu⟩:=ar
  .have o:((B:Int) != 0)=true:=by have:=kF d;simp;omega
   have j:=Z<|A B w3 (by rw[<-a,t,d]) g;go_wp2;exact j
  obtain⟨ra,rc,C,ay⟩:=cz V.rows;have D:=bB g ac y;have m2:=bC D 2;simp at m2;rw[C]at m2;have az:=lB D;by_cases I:(ak K i).rows.length=25
  .have j:=Z<|A 6 w3 (by rw[<-a,t,d];simp only;rw[VG I]) g;have o:((((ak K i).rows.length:Nat):Int)==25)=true:=by simp;omega
   go_wp2;exact j
  have aH:((((ak K i).rows.length:Nat):Int)==25)=false:=by simp;omega
  have aE:=E.d;obtain⟨ua,un,uc,rfl⟩:=aF hu;have o:=aB g V.rows;rw[C]at o;obtain⟨i0,hi,av,aw,ah⟩:=V5 iN;have R:Ze<|ec<|cm K i<|(ak K i).rows++[row]:=by unfold Ze;have:=nW HS H.a.ok;unfold d_ at this;rw[VF<|by omega,VG hk,a,<-a,t,d]at this;simp only at this;rw[VF I]at this;exact this
  have S:Ze<|out=(cm K i<|(ak K i).rows++[row],⟨[],1,0⟩):=by rw[Ze,<-a,t,d];simp only;rw[VF I]
  go_wp2_with (at_builtin;refine Wv _ rfl (.tmp 48) (.tmp 50) 29 rfl 0 32 i0 _ 1 24 underlying29 hi av aw ah rfl (by decide) _ _ _ rfl (o.alloc _) ⟨w3.heap.size,0,none⟩ 1 1 [.slice ua un uc] rfl rfl ?c1 ?c2 ?c3 ?c4 ?c5 ?_)
  case c1=>exact cW w3 [.slice ua un uc] 32
  case c2=>intro x hx;simp at hx;subst hx;rfl
  case c3=>unfold Zj;omega
  case c4=>omega
  case c5=>simp
  intro v' w4 q aa aD ad;rw[<-C]at aa ad;obtain⟨⟨aG,j⟩,M⟩:=OR H.a HL U (w3:=w3.alloc<|.cells #[.slice ua un uc] 32) (g.alloc (by omega) _) ((Z<|bU hu ag).alloc _) q aa (by simpa using ad) R.o;have al:=Z M;have q2:=bC j 2;have qf:=bF j 2;simp at q2;rw[C]at q2;have aC:=lB j;obtain⟨xa,xn,xc,rfl⟩:=aF q;go_wp2;exact W _ _ _ _ 1 S<|al.low ap
def pY.q{b:Y5}(h:pY w G n b K)(g:w.heap[n]?=some (.cells #[u] 77)):w.ownsRow 0 87 1 u K.length (b.map gC)/\∀k,u.ownBlock=some k->G k:=by
 obtain⟨c,a,d,e⟩:=h.box;rw[g]at a;injection a with a;injection a with a _ _;have:u=c:=by simpa using a
 subst this;exact⟨d,e⟩
def PF{lo:Nat}{q:Za}{b:Nat}{a:Y5}(h:pY w G b a K){V:List (YX×Int)}{p d:Nat}(J:qB w W)(N:W.heap[p]?=some (.cells #[qT X,A,qN] 94))(R:w.heap.size<=p)
 (F:w.ownsRow d 97 2 A V.length<|EJ V)(Z:∀k,A.ownBlock=some k->lo<=k)(ak:lo<=w.heap.size)(o:w.heap[b]?=some (.cells #[z] 77))
 (D:q.ownsRow 0 87 1 B (K.length+1)<|a.map gC++[qP p])(I:W.grownBy q z.ownBlock)(ho:∀k,B.ownBlock=some k->z.ownBlock=some k\/W.heap.size<=k)(ah:ec<|K++[⟨X,V,[]⟩]):
 q.heap[b]?=some (.cells #[z] 77)/\fW lo w G b (K++[⟨X,V,[]⟩]) (q.setCell ⟨b,0,none⟩ B) (λk=>grown G w q k\/A.ownBlock=some k) (a++[⟨p,qN,[]⟩]):=by
 obtain⟨H,S⟩:=h.q o;have al:=J.size;have am:=I.size;have Y:=lB o;have P:=lB N;have M:∀k,k<w.heap.size->z.ownBlock≠some k->q.heap[k]?=w.heap[k]?:=λk hk g=>by rw[I.block k (by omega) λe=>g e.symm,J.block k hk]
 have U:z.ownBlock≠some b:=λe=>by obtain⟨C,m,i⟩:=eX H e;exact gZ i o (by decide) rfl
 have L:q.heap[b]?=some (.cells #[z] 77):=(M b Y U).trans o;refine⟨L,?_⟩;have c:∀k,k<w.heap.size->k≠b->z.ownBlock≠some k->(q.setCell ⟨b,0,none⟩ B).heap[k]?=w.heap[k]?:=λk hk g Q=>by rw[VN _ _ _ _ g];exact M k hk Q
 have g:∀{e:Zf} {k:Nat} {C:Y_} {m:Nat×Nat},w.heap[k]?=some (.cells C e m)->e≠77->e≠87->k≠b/\z.ownBlock≠some k:=by intro e k C m hk l r;refine⟨gZ hk o l,λi=>?_⟩;obtain⟨t,u,j⟩:=eX H i;exact gZ hk j r rfl
 have y:∀{d:Nat} {e:Zf} {size n:Nat} {v:Zb} {xs:Y0},w.ownsRow d e size v n xs->e≠77->e≠87->∀k,v.ownBlock=some k->(q.setCell ⟨b,0,none⟩ B).heap[k]?=w.heap[k]?:=by intro d e size n v xs i r t k hk;obtain⟨C,m,u⟩:=eX i hk;obtain⟨j,l⟩:=g u r t;exact c k (i.lt k hk).2 j l
 have E:∀k,G k->(λk=>grown G w q k\/A.ownBlock=some k) k:=λk hk=>.inl<|.inl hk;have O:(q.setCell ⟨b,0,none⟩ B).heap[p]?=some (.cells #[qT X,A,qN] 94):=by rw[VN _ _ _ _ (show p≠b by omega),I.block p P (λe=>by have:=(H.lt p e.symm).2;omega)];exact N
 have ai:∀k,B.ownBlock=some k->k≠b:=λk hk e=>by
  subst e;obtain i|i:=ho _ hk
  .exact U i
  omega
 refine⟨⟨λk hk=>?_,E _ h.own,⟨B,?_,?_,λk hk=>?_⟩,?_,?_,?_,ah⟩,E,λk hk=>?_,?_⟩
 .rw[size_set];obtain(hk|hk)|hk:=hk
  .have:=h.lt k hk;omega
  .exact hk.2
  have:=(F.lt k hk).2;omega
 .have:=bS L 0 B;simpa using this
 .simp only[VH,V_,Wc];exact cN D λk hk=>VN _ _ _ _<|ai k hk
 .obtain i|i:=ho k hk
  .exact E k<|S k i
  exact .inl<|.inr ⟨by omega,(D.lt k hk).2⟩
 .simp[h.len]
 .intro i l t j T;by_cases hi:i<a.length
  .rw[VU hi]at j;rw[VU (by rw[<-h.len];exact hi)]at T;obtain⟨g1,⟨cw,g2,g3,g4⟩,g5,g6,g7,g8⟩:=h.c i l t j T;obtain⟨a1,a2⟩:=g g2 (by decide) (by decide);exact⟨E _ g1,⟨cw,(c _ (h.lt _ g1) a1 a2).trans g2,cN g3<|y g3 (by decide)<|by decide,λk hk=>E k<|g4 k hk⟩,cN g5<|y g5 (by decide)<|by decide,λk hk=>E k<|g6 k hk,g7,λx r u hr hu=>(g8 x r u hr hu).aL E<|y (g8 x r u hr hu).1 (by decide)<|by decide⟩
  have aa:=bw j;simp at aa;have ac:i=a.length:=by omega
  subst ac;simp at j;rw[h.len]at T;simp at T;subst j;subst T;refine⟨.inl<|.inr ⟨R,by show p<_;omega⟩,⟨A,O,cN (bU F qO)<|y F (by decide)<|by decide,λk hk=>.inr hk⟩,VP _ _ _ _,λk hk=>(by cases hk),λ_=>rfl,λx r u hr hu=>(by simp at hr)⟩
 ·intro i j l m ae u t;have r:∀(x:Nat) (T:fG),a[x]?=some T->T.n<w.heap.size/\∀k,T.a.ownBlock=some k->k<w.heap.size:=λx T hx=>by
   have aj:x<K.length:=by rw[<-h.len];exact bw hx
   have:=h.c x T _ hx<|VE aj;exact⟨h.lt _ this.own,λk hk=>h.lt k<|this.a k hk⟩
  by_cases hi:i<a.length
  .rw[VU hi]at u;by_cases hj:j<a.length
   .rw[VU hj]at t;exact h.apart i j l m ae u t
   have af:=bw t;simp at af;have ag:j=a.length:=by omega
   subst ag;simp at t;subst t;exact⟨by have:=(r i l u).1;show l.n≠p;omega,λk _=>by simp[Zb.ownBlock]⟩
  have ab:=bw u;simp at ab;have ad:i=a.length:=by omega
  subst ad;simp at u;subst u;have hj:j<a.length:=by have:=bw t;simp at this;omega
  rw[VU hj]at t;exact⟨by have:=(r j m t).1;show p≠m.n;omega,λk hk=>by simp[Zb.ownBlock]at hk⟩
 .obtain(hk|hk)|hk:=hk
  .exact .inl hk
  .exact .inr<|by omega
  exact .inr<|Z k hk
 .exact⟨I.os.trans J.os,I.tape.trans J.tape,I.output.trans J.output,by rw[size_set];omega,λk hk=>c k hk.1 (λe=>hk.2<|e▸h.own) λe=>hk.2<|S k e⟩
def Ke:(prog.info? 87).map (λi=>(i.zero,i.size,i.bytes))=some (some<|.pointer none,1,8):=by kernel_rfl
def DN(lo:Nat)(w:Za)(M:Y7)(b:Nat)(o:aI×iW)(e:Zg)(w':Za):Prop:=
 e=.returned (qI (o.2.err:Nat))/\∃M' lay',fW lo w M b o.1 w' M' lay'
def fJ(s:aX):List<|YX×Int:=s.c.map λi=>(i.name,i.type)
def PC(y:Nat){s:aX}(hs:eL s)(hk:s.aC=99)(t:Nat){b:Nat}{E:Y5}(h:pY w G b E K)(ak:y<=w.heap.size)
 (hn:w.heap[n]?=some (.cells #[qT s.table,z] 190))(D:w.ownsRow t 97 2 z (fJ s).length<|EJ<|fJ s)(aj:∀k,z.ownBlock=some k->y<=k):
 Zc prog 65 #[qP b,qP n] w (DN y w G b<|dk K s):=by
 have HS:=Z hs;have n0:=bC hn;have ax:(fJ s).length<=5:=by simp[fJ];exact(hs.create hk).1
 have A:=Z<|FN s.table h;have g:=Z<|I5 t D (by omega);have HN:=Z hn;have H:=Z h;have Y:=Z D;have X:=Z aj;obtain⟨ca,cc,rfl,au⟩:=cz D;have al:gX (fJ s)=s.c.map (·.name):=by simp[gX,fJ]
 rw[al]at g;generalize ai:dk K s=out;have q:=Z ai;have B:Ze (∀er o,out=(K,di er)->qB w o->DN y w G b out (.returned<|qI (er:Nat)) o):=λer o ho hb=>by rw[ho];exact⟨rfl,G,E,fW.below h hb⟩
 have I:Ze (∀o M' r U,out=(U,di 0)->fW y w G b U o M' r->DN y w G b out (.returned<|qI 0) o):=λo M' r U ho am=>by rw[ho];exact⟨rfl,M',r,am⟩
 generalize DN y w G b out=J at*;obtain⟨ta,tc,(p:Ze _),_⟩:=h.slice;have M:=lB p;cases hta:bO K s.table with
 |some i=>
  have c:=Z<|B 2 w (by rw[<-q];rw[dk,hta];simp) qW;obtain⟨l,_,_,a⟩:=oG H<|cx hta;rw[hta,a]at A;go_in;go_wp2_with apply qS A;go_wp2;exact c
 |none=>
  rw[hta]at A;simp only[iA]at A;cases hdup:nr (s.c.map (·.name))with
  |true=>
   have d:=Z λo=>B 2 o (by rw[<-q];rw[dk,hta,hdup];simp);rw[hdup]at g;go_in;go_wp2_with apply qS A;go_wp2_with apply qR g;intro i c;have a:=Z c;go_wp2;exact d _ a
  |false=>
   rw[hdup]at g;by_cases h6:K.length=6
   .have j:=Z λo=>B 6 o (by rw[<-q];rw[dk,hta,hdup,VF<|by simp,VG h6]);have l:(((List.length K:Nat):Int)==6)=true:=by simp;omega
    go_in;go_wp2_with apply qS A;go_wp2_with apply qR g;intro u c;have d:=Z c;have a:=bB c M p;have c2:=bC a 0;simp at c2;have i:=lB a;go_wp2;exact j _ d
   have g6:(((List.length K:Nat):Int)==6)=false:=by simp;omega
   have i:Ze<|out=(K++[⟨s.table,fJ s,[]⟩],di 0):=by rw[Ze,<-q];rw[dk,hta,hdup,VF<|by simp,VF h6];rfl
   have ad:Ze<|ec<|K++[⟨s.table,fJ s,[]⟩]:=by unfold Ze;have:=nW HS H.ok;unfold d_ at this;rw[VG hk,q,i]at this;exact this
   have aw:=H.ok.1;obtain⟨i0,hi,an,ao,ap⟩:=V5 Ke;go_in;go_wp2_with refine A.mono ?_;rintro e w1⟨rfl,rfl⟩;go_wp2_with apply qR g;intro c a;have V:=Z a;have l:=bB a M p;have c2:=bC l;have ar:=lB l;have P:=bB a (lB hn) HN;have d0:=bC P;have av:=lB P;have R:=a.size;have H5:=Z<|aB a (H.q p).1;generalize hO:Obj.cells #[qT s.table,.slice ca (fJ s).length cc,qN] 94=O;generalize L:Obj.cells #[qP c.heap.size] 87=F;have W:Ze<|qB w1 ((c.alloc O).alloc F).drew:=(((V.alloc (by omega) _).alloc (by simp;omega) _).drew);have ab:Ze<|((c.alloc O).alloc F).drew.heap[c.heap.size]?=some O:=bA (aM _ _) _;have ac:Ze (∀j u,([qP c.heap.size]:Y0)[j]?=some u->((c.alloc O).alloc F).drew.cell? ((⟨c.heap.size+1,0,none⟩:Addr).add j)=some u):=by subst L;exact uC c O [qP c.heap.size] 87
   have ae:Ze (∀u∈([qP c.heap.size]:Y0),u.oneCell'=true):=by intro u hu;simp at hu;subst hu;rfl
   have aa:Ze<|K.length+1<=Zj:=by unfold Ze Zj;omega
   have ag:Ze<|(K.length+1)*8<=140737488355328:=by unfold Ze;omega
   have ah:Ze<|0<=((c.alloc O).alloc F).drew.heap.size:=qO;have C:Ze (∀T S,T.ownsRow 0 87 1 S (K.length+1) (E.map gC++[qP c.heap.size])->((c.alloc O).alloc F).drew.grownBy T (Zb.ownBlock<|.slice ta K.length tc)->(∀k,S.ownBlock=some k->Zb.ownBlock (.slice ta K.length tc)=some k\/((c.alloc O).alloc F).drew.heap.size<=k)->T.heap[b]?=some (.cells #[.slice ta K.length tc] 77)/\J (.returned<|qI 0) (T.setCell ⟨b,0,none⟩ S)):=by intro T S h1 h2 h3;subst hO;obtain⟨a1,a2⟩:=PF (lo:=y) H W ab R Y X ak p h1 h2 h3 ad;exact⟨a1,I _ _ _ _ i a2⟩
   subst hO;subst L;go_wp2
   go_region_law (refine kE rfl (.tmp 29) (.tmp 40) rfl i0 underlying75 hi an ao ap rfl (by decide) rfl ((H5.alloc _).alloc _) ⟨c.heap.size+1,0,none⟩ 1 1 [qP c.heap.size] rfl rfl ac ae aa ag ah ?_;intro S o d N x;obtain⟨g',aq,rfl⟩:=pP d;obtain⟨a,Q⟩:=C.o _ _ d N x;have c4:=bC a 0;simp at c4;have f4:=bF a 0;have ay:=lB a;have af:=Z Q;clear Q a d N x)
   all_goals go_wp2_with fail
   all_goals exact af
def CL(ab:List<|YX×Int)(cs:Y0):Prop:=∀(i:Nat)(c:YX×Int),ab[i]?=some c->cs[i*5]?=some (qT c.1)/\cs[i*5+2]?=some (qI c.2)
structure tQ(w:Za)(M:Y7)(l:fG)(t:bV):Prop where
 own:M l.n
 q:∃cv,w.heap[l.n]?=some (.cells #[qT t.name,cv,l.a] 159)/\(∃cs,w.ownsRow 0 157 5 cv t.a.length cs/\CL t.a cs)/\∀k,cv.ownBlock=some k->M k
 rows:w.ownsRow 0 32 1 l.a t.rows.length l.us
 a:∀k,l.a.ownBlock=some k->M k
 empty:t.rows=[]->l.a=qN
 each:∀(i:Nat) (r:YW) (u:Zb),t.rows[i]?=some r->l.us[i]?=some u->Ak w M r u
structure jE(w:Za)(M:Y7)(b:Nat)(lay:Y5)(D:aI):Prop where
 lt:∀k,M k->k<w.heap.size
 own:M b
 box:∃tv,w.heap[b]?=some (.cells #[tv] 105)/\w.ownsRow 0 154 1 tv D.length (lay.map gC)/\∀k,tv.ownBlock=some k->M k
 len:lay.length=D.length
 c:∀(i:Nat) (l:fG) (t:bV),lay[i]?=some l->D[i]?=some t->tQ w M l t
 apart:∀(i j:Nat) (l m:fG),i≠j->lay[i]?=some l->lay[j]?=some m->l.n≠m.n/\∀k,l.a.ownBlock=some k->m.a.ownBlock≠some k
 ok:ec D
def tQ.aL{w':Za}{l:fG}{t:bV}(h:tQ w G l t)(b:∀k,G k->H k)(c:∀k,G k->w'.heap[k]?=w.heap[k]?):tQ w' H l t:=by obtain⟨e,⟨cv,x,⟨q,y,d⟩,g⟩,z,j,A,n⟩:=h;exact⟨b _ e,⟨cv,(c _ e).trans x,⟨q,cN y λk a=>c k<|g k a,d⟩,λk a=>b k<|g k a⟩,cN z λk a=>c k<|j k a,λk a=>b k<|j k a,A,λi r u o p=>(n i r u o p).aL b λk a=>c k<|(n i r u o p).2 k a⟩
def jE.aL{w':Za}{a:Y5}(h:jE w G n a K)(z:w.heap.size<=w'.heap.size)(b:∀k,G k->w'.heap[k]?=w.heap[k]?):jE w' G n a K:=by obtain⟨j,e,⟨B,o,p,g⟩,q,r,u,x⟩:=h;exact⟨λk d=>VT (j k d) z,e,⟨B,(b _ e).trans o,cN p λk c=>b k<|g k c,g⟩,q,λi l t y A=>(r i l t y A).aL (λk d=>d) b,u,x⟩
def jE.below{a:Y5}(h:jE w G n a K)(b:qB w W):jE W G n a K:=h.aL b.size λk hk=>b.block k<|h.lt k hk
def jE.put{b:Nat}{c:Y5}(h:jE w G b c K){l:fG}{t:bV}(p:c[i]?=some l)(Y:K[i]?=some t){S:Y0}
 (A:∀k,G k->H k)(M:∀k,H k->k<W.heap.size)(a:∀k,G k->k≠l.n->l.a.ownBlock≠some k->W.heap[k]?=w.heap[k]?)
 (L:tQ W H ⟨l.n,z,S⟩ ⟨t.name,t.a,N⟩)(J:∀k,z.ownBlock=some k->l.a.ownBlock=some k\/w.heap.size<=k)(P:ec<|cm K i N):
 jE W H b (c.set i ⟨l.n,z,S⟩) (cm K i N):=by
 have O:=h.c i l t p Y;obtain⟨aa,F,_,_⟩:=O.q;have hi:i<c.length:=by
  obtain h|h:=Wx i c.length
  .exact h
  rw[V7 h]at p;cases p
 have I:∀{e:Zf} {k:Nat} {C:Y_} {m:Nat×Nat},w.heap[k]?=some (.cells C e m)->e≠159->e≠32->k≠l.n/\l.a.ownBlock≠some k:=by intro e k C m hk j q;refine⟨gZ hk F j,λd=>?_⟩;obtain⟨r,u,g⟩:=eX O.rows d;exact gZ hk g q rfl
 have o:∀{base:Nat} {e:Zf} {size n:Nat} {v:Zb} {Z:Y0},w.ownsRow base e size v n Z->(∀k,v.ownBlock=some k->G k)->e≠159->e≠32->∀k,v.ownBlock=some k->W.heap[k]?=w.heap[k]?:=by intro base e size n v Z x u j q k hk;obtain⟨C,m,r⟩:=eX x hk;obtain⟨d,g⟩:=I r j q;exact a k (u k hk) d g
 obtain⟨tv,B,D,E⟩:=h.box;refine⟨M,A _ h.own,⟨tv,?_,?_,λk hk=>A k<|E k hk⟩,by rw[Wu,kD];exact h.len,?_,?_,P⟩
 .obtain⟨d,g⟩:=I B (by decide) (by decide);rw[a b h.own d g];exact B
 ·rw [kD];have:(c.set i ⟨l.n,z,S⟩).map gC=c.map gC:=by
   rw[List.map_set];apply WX;intro j;rw[Wq];split
   .rename_i e;subst e;split
    .rw[VO,p];rfl
    rename_i d;simp at d;omega
   rfl
  rw[this];exact cN D<|o D E (by decide)<|by decide
 .intro j m s g hs;rw[Wq]at g;unfold cm at hs;rw[X6]at hs;by_cases d:i=j
  .subst d;rw[VG rfl,VG hi]at g;simp at g;subst g;rw[Y]at hs;simp at hs;subst hs;exact L
  rw[VF d]at g;have y:K[j]?=some s:=by
   cases hd:K[j]? with
   |none=>rw[hd]at hs;simp at hs
   |some x=>rw[hd]at hs;simp[d]at hs;rw[hs]
  obtain⟨ap1,ap2⟩:=h.apart i j l m d p g;obtain⟨Q,⟨cv,R,⟨cs,T,q⟩,U⟩,V,X,g7,g8⟩:=h.c j m s g y
  have k1:W.heap[m.n]?=w.heap[m.n]?:=a m.n Q (WN ap1) (λe=>by
   obtain⟨C',m',h'⟩:=eX O.rows e
   exact gZ R h' (by decide) rfl)
  refine⟨A _ Q,⟨cv,k1.trans R,⟨cs,cN T<|o T U (by decide)<|by decide,q⟩,λk hk=>A k<|U k hk⟩,cN V λk hk=>?_,λk hk=>A k<|X k hk,g7,λx r u hr hu=>?_⟩
  .obtain⟨C,mm,hc⟩:=eX V hk;exact a k (X k hk) (gZ hc F<|by decide) λe=>ap2 k e hk
  have:=g8 x r u hr hu;exact this.aL A<|o this.1 this.2 (by decide)<|by decide
 .intro x y Q R q g d;rw[Wq]at g d;by_cases j:i=x
  .subst j;rw[VG rfl,VG hi]at g;rw[VF q]at d;simp at g;subst g;obtain⟨T,U⟩:=h.apart i y l R q p d;refine⟨T,λk hk r=>?_⟩;obtain u|u:=J k hk
   .exact U k u r
   have hs:∃s,K[y]?=some s:=by
    have:y<K.length:=by
     rw[<-h.len];obtain h|h:=Wx y c.length
     .exact h
     rw[V7 h]at d;cases d
    exact⟨_,VE this⟩
   obtain⟨s,hs⟩:=hs;have:=h.lt k<|(h.c y R s d hs).a k r;omega
  rw[VF j]at g;by_cases r:i=y
  .subst r;rw[VG rfl,VG hi]at d;simp at d;subst d;obtain⟨U,V⟩:=h.apart x i Q l (WN j) g p;refine⟨U,λk hk u=>?_⟩;obtain T|T:=J k u
   .exact V k hk T
   have hs:∃s,K[x]?=some s:=by
    have:x<K.length:=by
     rw[<-h.len];obtain h|h:=Wx x c.length
     .exact h
     rw[V7 h]at g;cases g
    exact⟨_,VE this⟩
   obtain⟨s,hs⟩:=hs;have:=h.lt k<|(h.c x Q s g hs).a k hk;omega
  rw[VF r]at d;exact h.apart x y Q R q g d
structure ei(lo:Nat)(w:Za)(M:Y7)(b:Nat)(D:aI)(w':Za)(M':Y7)(lay:Y5):Prop where
 a:jE w' M' b lay D
 sub:∀k,M k->M' k
 new:∀k,M' k->M k\/lo<=k
 aL:KP (λk=>k<w.heap.size/\¬M k) w w'
def ei.below{b:Y5}(h:jE w G i b K)(a:qB w W):ei n w G i K W G b:=
 ⟨h.below a,λk hk=>hk,λk hk=>.inl hk,⟨a.os,a.tape,a.output,a.size,λk hk=>a.block k hk.1⟩⟩
def LW{w3:Za}{b:Nat}{q:Y5}(h:jE w G b q K){l:fG}{t:bV}(Y:q[i]?=some l)(Z:K[i]?=some t)(B:qB w w3)(hu:w3.ownsRow w.heap.size 34 3 u I.length<|c_ I)
 (p:W.ownsRow 0 32 1 z (t.rows.length+1)<|l.us++[u])(A:w3.grownBy W l.a.ownBlock)(S:z.ownBlock=l.a.ownBlock\/z.ownBlock=some w3.heap.size)(T:ec<|cm K i<|t.rows++[I]):
 (∃cv,W.heap[l.n]?=some (.cells #[qT t.name,cv,l.a] 159)) /\
 ei w.heap.size w G b (cm K i<|t.rows++[I]) (W.setCell ⟨l.n,2,none⟩ z) (grown G w W) (q.set i ⟨l.n,z,l.us++[u]⟩):=by
 have d:=h.c i l t Y Z;obtain⟨cv,N,⟨cs,V,P⟩,X⟩:=d.q;have M:=B.size;have aa:=A.size;have R:=h.lt _ d.own;have E:∀k,k<w.heap.size->l.a.ownBlock≠some k->W.heap[k]?=w.heap[k]?:=λk hk g=>by rw[A.block k (by omega) λe=>g e.symm,B.block k hk]
 have H:l.a.ownBlock≠some l.n:=λe=>by obtain⟨C,m,j⟩:=eX d.rows e;exact gZ j N (by decide) rfl
 have D:W.heap[l.n]?=some (.cells #[qT t.name,cv,l.a] 159):=(E _ R H).trans N;refine⟨⟨cv,D⟩,?_⟩;have a:∀k,k<w.heap.size->k≠l.n->l.a.ownBlock≠some k->(W.setCell ⟨l.n,2,none⟩ z).heap[k]?=w.heap[k]?:=λk hk g o=>by rw[VN _ _ _ _ g];exact E k hk o
 have F:∀{base:Nat} {e:Zf} {size n:Nat} {v:Zb} {xs:Y0},w.ownsRow base e size v n xs->(∀k,v.ownBlock=some k->G k)->e≠159->e≠32->∀k,v.ownBlock=some k->(W.setCell ⟨l.n,2,none⟩ z).heap[k]?=w.heap[k]?:=by intro base e size n v xs j Q L O k hk;obtain⟨C,m,r⟩:=eX j hk;refine a k (h.lt k<|Q k hk) (gZ r N L) λx=>?_;obtain⟨C',m',J⟩:=eX d.rows x;exact gZ r J O rfl
 have U:∀k,z.ownBlock=some k->k≠l.n:=λk hk e=>by
  subst e;obtain j|j:=S
  .rw[j]at hk;exact H hk
  rw[j]at hk;injection hk with hk;omega
 have y:∀k,G k->grown G w W k:=λk hk=>.inl hk;have c:∀k,u.ownBlock=some k->w.heap.size<=k/\k<w3.heap.size:=λk hk=>hu.lt k hk;refine⟨h.put Y Z y (λk hk=>?_) (λk hk g o=>a k (h.lt k hk) g o) ?_ (λk hk=>?_) T,y,λk hk=>hk.imp id λh=>h.1,?_⟩
 .rw[size_set];obtain hk|hk:=hk
  .have:=h.lt k hk;omega
  exact hk.2
 .refine⟨y _ d.own,⟨cv,?_,?_,λk hk=>y k<|X k hk⟩,?_,λk hk=>?_,λhn=>?_,λj r x J L=>?_⟩
  .have:=bS D 2 z;simpa using this
  .exact⟨cs,cN V<|F V X (by decide)<|by decide,P⟩
  .simp only[VH,V_];exact cN p λk hk=>VN _ _ _ _<|U k hk
  .obtain O|O:=S
   .have C:z.ownBlock=some k:=hk;rw[O]at C;exact y k<|d.a k C
   have C:z.ownBlock=some k:=hk;rw[O]at C;cases C;refine .inr ⟨M,?_⟩;exact(p.lt _ hk).2
  .simp at hn
  have C:l.us.length=t.rows.length:=by have:=d.rows.1;omega
  by_cases hj:j<t.rows.length
  .rw[VU hj]at J;rw[VU<|by omega]at L;have:=d.each j r x J L;exact this.aL y<|F this.1 this.2 (by decide)<|by decide
  have O:j=t.rows.length:=by have:=bw J;simp at this;omega
  subst O;simp at J;rw[<-C]at L;simp at L;subst J;subst L;refine⟨cN (bU hu qO) λk hk=>?_,λk hk=>.inr ⟨(c k hk).1,by have:=(c k hk).2;omega⟩⟩;have Q:=c k hk;rw[VN _ _ _ _ (show k≠l.n by omega)];exact A.block k Q.2 (λe=>by have:=h.lt k<|d.a k e.symm;omega)
 .obtain j|j:=S
  .rw[j]at hk;exact .inl hk
  rw[j]at hk;cases hk;exact .inr M
 .refine⟨A.os.trans B.os,A.tape.trans B.tape,A.output.trans B.output,by rw[size_set];omega,λk hk=>a k hk.1 (λe=>hk.2<|e▸d.own) λe=>hk.2<|d.a k e⟩
def ei.low{a:Y5}(h:ei n w G j K W H a)(b:i<=n):ei i w G j K W H a:=⟨h.a,h.sub,λk hk=>(h.new k hk).imp id λh=>Wf b h,h.aL⟩
def jE.q{b:Y5}(h:jE w G n b K)(g:w.heap[n]?=some (.cells #[u] 105)):w.ownsRow 0 154 1 u K.length (b.map gC)/\∀k,u.ownBlock=some k->G k:=by
 obtain⟨c,a,d,e⟩:=h.box;rw[g]at a;injection a with a;injection a with a _ _;have:u=c:=by simpa using a
 subst this;exact⟨d,e⟩
def On{lo:Nat}{q:Za}{b:Nat}{a:Y5}(h:jE w G b a K){Y:List (YX×Int)}{p d:Nat}(J:qB w W)(O:W.heap[p]?=some (.cells #[qT X,A,qN] 159))(S:w.heap.size<=p)
 {Z:Y0}(F:w.ownsRow d 157 5 A Y.length Z)(ad:CL Y Z)(ac:∀k,A.ownBlock=some k->lo<=k)(ak:lo<=w.heap.size)(o:w.heap[b]?=some (.cells #[z] 105))
 (D:q.ownsRow 0 154 1 B (K.length+1)<|a.map gC++[qP p])(I:W.grownBy q z.ownBlock)(ho:∀k,B.ownBlock=some k->z.ownBlock=some k\/W.heap.size<=k)(ai:ec<|K++[⟨X,Y,[]⟩]):
 q.heap[b]?=some (.cells #[z] 105)/\ei lo w G b (K++[⟨X,Y,[]⟩]) (q.setCell ⟨b,0,none⟩ B) (λk=>grown G w q k\/A.ownBlock=some k) (a++[⟨p,qN,[]⟩]):=by
 obtain⟨H,T⟩:=h.q o;have al:=J.size;have am:=I.size;have ab:=lB o;have Q:=lB O;have M:∀k,k<w.heap.size->z.ownBlock≠some k->q.heap[k]?=w.heap[k]?:=λk hk g=>by rw[I.block k (by omega) λe=>g e.symm,J.block k hk]
 have V:z.ownBlock≠some b:=λe=>by obtain⟨C,m,i⟩:=eX H e;exact gZ i o (by decide) rfl
 have L:q.heap[b]?=some (.cells #[z] 105):=(M b ab V).trans o;refine⟨L,?_⟩;have c:∀k,k<w.heap.size->k≠b->z.ownBlock≠some k->(q.setCell ⟨b,0,none⟩ B).heap[k]?=w.heap[k]?:=λk hk g R=>by rw[VN _ _ _ _ g];exact M k hk R
 have g:∀{e:Zf} {k:Nat} {C:Y_} {m:Nat×Nat},w.heap[k]?=some (.cells C e m)->e≠105->e≠154->k≠b/\z.ownBlock≠some k:=by intro e k C m hk l r;refine⟨gZ hk o l,λi=>?_⟩;obtain⟨t,u,j⟩:=eX H i;exact gZ hk j r rfl
 have y:∀{d:Nat} {e:Zf} {size n:Nat} {v:Zb} {xs:Y0},w.ownsRow d e size v n xs->e≠105->e≠154->∀k,v.ownBlock=some k->(q.setCell ⟨b,0,none⟩ B).heap[k]?=w.heap[k]?:=by intro d e size n v xs i r t k hk;obtain⟨C,m,u⟩:=eX i hk;obtain⟨j,l⟩:=g u r t;exact c k (i.lt k hk).2 j l
 have E:∀k,G k->(λk=>grown G w q k\/A.ownBlock=some k) k:=λk hk=>.inl<|.inl hk;have P:(q.setCell ⟨b,0,none⟩ B).heap[p]?=some (.cells #[qT X,A,qN] 159):=by rw[VN _ _ _ _ (show p≠b by omega),I.block p Q (λe=>by have:=(H.lt p e.symm).2;omega)];exact O
 have aj:∀k,B.ownBlock=some k->k≠b:=λk hk e=>by
  subst e;obtain i|i:=ho _ hk
  .exact V i
  omega
 refine⟨⟨λk hk=>?_,E _ h.own,⟨B,?_,?_,λk hk=>?_⟩,?_,?_,?_,ai⟩,E,λk hk=>?_,?_⟩
 .rw[size_set];obtain(hk|hk)|hk:=hk
  .have:=h.lt k hk;omega
  .exact hk.2
  have:=(F.lt k hk).2;omega
 .have:=bS L 0 B;simpa using this
 .simp only[VH,V_,Wc];exact cN D λk hk=>VN _ _ _ _<|aj k hk
 .obtain i|i:=ho k hk
  .exact E k<|T k i
  exact .inl<|.inr ⟨by omega,(D.lt k hk).2⟩
 .simp[h.len]
 .intro i l t N U;by_cases hi:i<a.length
  .rw[VU hi]at N;rw[VU (by rw[<-h.len];exact hi)]at U;obtain⟨g1,⟨cw,g2,⟨aa,g3,j⟩,g4⟩,g5,g6,g7,g8⟩:=h.c i l t N U;obtain⟨a1,a2⟩:=g g2 (by decide) (by decide);exact⟨E _ g1,⟨cw,(c _ (h.lt _ g1) a1 a2).trans g2,⟨aa,cN g3<|y g3 (by decide)<|by decide,j⟩,λk hk=>E k<|g4 k hk⟩,cN g5<|y g5 (by decide)<|by decide,λk hk=>E k<|g6 k hk,g7,λx r u hr hu=>(g8 x r u hr hu).aL E<|y (g8 x r u hr hu).1 (by decide)<|by decide⟩
  have j:=bw N;simp at j;have ae:i=a.length:=by omega
  subst ae;simp at N;rw[h.len]at U;simp at U;subst N;subst U;refine⟨.inl<|.inr ⟨S,by show p<_;omega⟩,⟨A,P,⟨Z,cN (bU F qO)<|y F (by decide)<|by decide,ad⟩,λk hk=>.inr hk⟩,VP _ _ _ _,λk hk=>(by cases hk),λ_=>rfl,λx r u hr hu=>(by simp at hr)⟩
 ·intro i j l m ag u t;have r:∀(x:Nat) (N:fG),a[x]?=some N->N.n<w.heap.size/\∀k,N.a.ownBlock=some k->k<w.heap.size:=λx N hx=>by
   have U:x<K.length:=by rw[<-h.len];exact bw hx
   have:=h.c x N _ hx<|VE U;exact⟨h.lt _ this.own,λk hk=>h.lt k<|this.a k hk⟩
  by_cases hi:i<a.length
  .rw[VU hi]at u;by_cases hj:j<a.length
   .rw[VU hj]at t;exact h.apart i j l m ag u t
   have U:=bw t;simp at U;have ah:j=a.length:=by omega
   subst ah;simp at t;subst t;exact⟨by have:=(r i l u).1;show l.n≠p;omega,λk _=>by simp[Zb.ownBlock]⟩
  have U:=bw u;simp at U;have af:i=a.length:=by omega
  subst af;simp at u;subst u;have hj:j<a.length:=by have:=bw t;simp at this;omega
  rw[VU hj]at t;exact⟨by have:=(r j m t).1;show p≠m.n;omega,λk hk=>by simp[Zb.ownBlock]at hk⟩
 .obtain(hk|hk)|hk:=hk
  .exact .inl hk
  .exact .inr<|by omega
  exact .inr<|ac k hk
 .exact⟨I.os.trans J.os,I.tape.trans J.tape,I.output.trans J.output,by rw[size_set];omega,λk hk=>c k hk.1 (λe=>hk.2<|e▸h.own) λe=>hk.2<|T k e⟩
