import Derived.Test.YtojdpjpldokjmaaGreatDoorC10
set_option maxHeartbeats 0
set_option maxRecDepth 100000
set_option linter.all false
namespace Go.Proofs.YtojdpjpldokjmaaGreatDoor
open Go.Deep Go.RowKit Tryz
open Go renaming World->Za,Value->Zb,Calls->Zc,results->Zh,callFunc->Zi
open RowKit renaming Hid->Ze,intOf->Zk
variable{W w:World}{i j k n:Nat}{b:Bool}{a:Int}
structure SC where
 a:List Key
 c:List Int
 b:Nat
 base:Nat
 g:Nat
 cap:Nat
 n:Nat
 w:Za
abbrev SC.v(c:SC):Zb:=.slice (some ⟨c.g,0,none⟩) c.n c.cap
structure nS(c:SC)(wr:Za)(l:List Rk):Prop where
 P:zH wr c.base c.v l
 cmp:vQ wr c.b c.a
 d:aH c.g c.w wr
 ok:∀x∈l,E3 c.a c.c x
 len:l.length=c.n
 env:c.c.length=c.a.length/\c.b<c.g/\c.n<=1048576
def E5(c:SC)(l:List Rk):Ending->Za->Prop:=λe w'=>e=.returned (.tuple #[])/\nS c w' l
def nS.below{c:SC}{wr:Za}{l:List Rk}(h:nS c wr l)(a:qB wr W):nS c W l:=
 ⟨h.P.below a,h.cmp.aL λk hk=>a.block k (by obtain⟨d,b,_⟩:=h.cmp.box;have:=lB b;omega),h.d.below a,h.ok,h.len,h.env⟩
def nS.get{c:SC}{wr:Za}{l:List Rk}(h:nS c wr l){i:Nat}(E:i<c.n):∃(x:Rk)(a b:Y8)(g e n j:Nat),l[i]?=some x/\x∈l/\x.a=.slice a g e/\x.row=.slice b n j/\c.g<wr.heap.size/\wr.cell? ⟨c.g,i*2,none⟩=some (.slice a g e)/\wr.cell? ⟨c.g,i*2+1,none⟩=some (.slice b n j)/\∀o,wr.frozen? ⟨c.g,o,none⟩=false:=by
 have q:l[i]?=some (l[i]'(by have:=h.len;omega)):=VE _;generalize l[i]'(by have:=h.len;omega)=x at*;have t:=VY q;obtain⟨a,g,e,y⟩:=aF (h.P.each x t).1;obtain⟨b,n,j,z⟩:=(h.P.each x t).2;refine⟨x,a,b,g,e,n,j,q,t,y,z,?_⟩;obtain⟨B,_⟩|⟨D,w,r,A,_,p,_,_,_,C⟩:=h.P.own.2
 .cases B
 simp only[SC.v,Zb.slice.injEq,Option.some.injEq,Addr.mk.injEq]at A;obtain⟨⟨rfl,_⟩,_,rfl⟩:=A;have d:∀k u,(oL l)[k]?=some u->r[k]?=some u:=λk u hk=>by
  rw[<-C,V6]at hk;split at hk
  .simpa using hk
  cases hk
 exact⟨lB p,(bC p _).trans<|d _ _<|y▸(oW q).1,(bC p _).trans<|d _ _<|z▸(oW q).2,bF p⟩
def nS.swap{c:SC}{wr:Za}{l:List Rk}(h:nS c wr l){x y:Rk}(d:l[i]?=some x)(g:l[j]?=some y):nS c ((((wr.setCell ⟨c.g,i*2,none⟩ y.a).setCell ⟨c.g,i*2+1,none⟩ y.row).setCell ⟨c.g,j*2,none⟩ x.a).setCell ⟨c.g,j*2+1,none⟩ x.row).drew<|pU l i j:=by
 have o:=VY d;have p:=VY g;have ex:=h.P.each x o;have n:=(h.P.set (i:=i) (x:=y) (bw d)<|h.P.each y p).set (i:=j) (x:=x) (by rw[Wu];exact bw g) ⟨h.P.d ex.1 _ _ _ _,ex.2⟩;have e:pU l i j=(l.set i y).set j x:=by unfold pU;rw[d,g]
 rw[e];refine⟨⟨n.own,λz b=>n.each z b⟩,h.cmp.aL λk hk=>?_,((((h.d.set _ _).set _ _).set _ _).set _ _).drew,λz b=>?_,by rw[Wu,Wu];exact h.len,h.env⟩
 .have a:k≠c.g:=by have:=h.env;omega
  show((((wr.setCell _ _).setCell _ _).setCell _ _).setCell _ _).heap[k]?=_;rw[VN _ _ _ _ a,VN _ _ _ _ a,VN _ _ _ _ a,VN _ _ _ _ a]
 rcases Xl b with b|rfl
 .rcases Xl b with b|rfl
  .exact h.ok z b
  exact h.ok _ p
 exact h.ok _ o
def nS.q{c:SC}{wr:Za}{l:List Rk}(h:nS c wr l){i j:Nat}(F:i<c.n)(G:j<c.n)(a:i≠j):∃(b d p q:Y8)(n e k g w r u t:Nat),(¬i=j/\¬j=i/\¬i*2=j*2+1/\¬i*2+1=j*2/\¬j*2=i*2+1/\¬j*2+1=i*2)/\c.g<wr.heap.size/\wr.cell? ⟨c.g,i*2,none⟩=some (.slice b n e)/\wr.cell? ⟨c.g,i*2+1,none⟩=some (.slice d k g)/\wr.cell? ⟨c.g,j*2,none⟩=some (.slice p w r)/\wr.cell? ⟨c.g,j*2+1,none⟩=some (.slice q u t)/\(∀o,wr.frozen? ⟨c.g,o,none⟩=false) /\
 Ze (nS c ((((wr.setCell ⟨c.g,i*2,none⟩<|.slice p w r).setCell ⟨c.g,i*2+1,none⟩<|.slice q u t).setCell ⟨c.g,j*2,none⟩<|.slice b n e).setCell ⟨c.g,j*2+1,none⟩<|.slice d k g).drew<|pU l i j):=by
 obtain⟨x,b,d,n,e,k,g,H,_,z,A,E,J,K,D⟩:=h.get F;obtain⟨y,p,q,w,r,u,t,I,_,B,C,_,L,M,_⟩:=h.get G;have hs:=h.swap H I;rw[z,A,B,C]at hs;exact⟨b,d,p,q,n,e,k,g,w,r,u,t,⟨a,a.symm,by omega,by omega,by omega,by omega⟩,E,J,K,L,M,D,hs⟩
def JC{c:SC}{l:List Rk}(h:nS c w l)(C:n<j)(I:n+k<=c.n)(J:j+k<=c.n)(f:Zb):
 Zc prog 321 #[c.v,.int .i64 (n:Nat),.int .i64 (j:Nat),.int .i64 (k:Nat),f] w (E5 c<|jY l n j k):=by
 have N:=h.env.2.2;have x:Ze (∀g L,nS c g L->L=jY l n j k->E5 c (jY l n j k) (.returned<|.tuple #[]) g):=λg L h e=>⟨rfl,e▸h⟩;have a:Ze (∃L,nS c w L/\jY L (n+0) (j+0) (k-0)=jY l n j k):=⟨l,h,rfl⟩;generalize jY l n j k=T at*;generalize E5 c T=u at*;unfold SC.v;go_in;go_wp2
 go_loopw [10] (λs wr=>∃i:Nat,s=.int .i64 (i:Nat)/\i<=k/\Ze (∃L,nS c wr L/\jY L (n+i) (j+i) (k-i)=T)) (λs _=>k-(Zk s).toNat)
 exact⟨0,rfl,Wi _,a⟩
 case round=>
  obtain⟨i,rfl,D,o⟩:=hrel;by_cases E:i<k
  .have H:((i:Nat):Int)<((k:Nat):Int):=by omega
   obtain⟨L,A,B⟩:=o.o;obtain⟨p,O,b,r⟩:∃p:Nat,((n:Nat):Int)+((i:Nat):Int)=(p:Nat)/\p<c.n/\Ze (p=n+i):=⟨n+i,by omega,by omega,rfl⟩;obtain⟨q,P,d,t⟩:∃q:Nat,((j:Nat):Int)+((i:Nat):Int)=(q:Nat)/\q<c.n/\Ze (q=j+i):=⟨j+i,by omega,by omega,rfl⟩;obtain⟨Z,xb,ya,yb,xn,xc,xm,xd,yn,yc,ym,yd,⟨Q,R,S,U,V,W⟩,M,X,Y,y0,y1,K,y⟩:=A.q b d (by have:=r.o;have:=t.o;omega);have z:Ze<|jY (pU L p q) (n+(i+1)) (j+(i+1)) (k-(i+1))=T:=by unfold Ze;rw[<-B,r,t,show k-i=k-(i+1)+1 by omega];rfl
   have⟨F,G⟩:((p:Nat):Int)<((c.n:Nat):Int)/\((q:Nat):Int)<((c.n:Nat):Int):=by omega
   go_wp2;go_region;go_wp2;go_roundw;exact⟨i+1,by go_num,by omega,_,y,z⟩;simp[Zk];omega
  obtain rfl:i=k:=by omega
  obtain⟨L,d,p⟩:=o.o;have b:=Z<|x _ L d (by rw[<-p,XL];rfl);go_wp2;exact WL (v:=.tuple #[]) (by simp[Zh,results321,go_sem]) rfl b
def Qr{c:SC}{l:List Rk}(h:nS c w l){m b:Nat}(S:n<m)(U:m<b)(N:b<=c.n){f:Zb}:
 Zc prog 296 #[c.v,.int .i64 (n:Nat),.int .i64 (m:Nat),.int .i64 (b:Nat),f] w (E5 c<|gm l n m b):=by
 have V:=h.env.2.2;have u:Ze (∀wr L p q k,nS c wr L->p<q->p+k<=c.n->q+k<=c.n->Zc prog 321 #[.slice (some ⟨c.g,0,none⟩) c.n c.cap,.int .i64 (p:Nat),.int .i64 (q:Nat),.int .i64 (k:Nat),f] wr (E5 c<|jY L p q k)):=λwr L p q k h K x y=>JC h K x y f;have o:Ze (∃L,nS c w L/\gS (gm l n m b) m (m-n) (b-m) L):=⟨l,h,pw (by omega) (by omega)<|h.len▸N⟩;generalize gm l n m b=T at*;have⟨O,P,G,H,I,J⟩:((m:Nat):Int)-((n:Nat):Int)=((m-n:Nat):Int)/\((b:Nat):Int)-((m:Nat):Int)=((b-m:Nat):Int)/\m-n<=m/\m+(b-m)<=c.n/\0<m-n/\0<b-m:=by omega
 unfold SC.v;generalize m-n=Q at*;generalize b-m=R at*;go_in;go_wp2
 go_loopw [10,11] (λs t wr=>∃i j:Nat,s=.int .i64 (i:Nat)/\t=.int .i64 (j:Nat)/\0<i/\0<j/\i<=m/\m+j<=c.n/\Ze (∃L,nS c wr L/\gS T m i j L)) (λs t _=>(Zk s).toNat+(Zk t).toNat)
 exact⟨Q,R,rfl,rfl,I,J,G,H,o⟩
 case round=>
  obtain⟨i,j,rfl,rfl,x,y,M,z,D⟩:=hrel;obtain⟨p,W,(a:Ze _)⟩:∃p:Nat,((m:Nat):Int)-((i:Nat):Int)=(p:Nat)/\p+i=m:=⟨m-i,by omega,by omega⟩;have g:p<m:=by omega
  obtain⟨L,A,B⟩:=D.o;obtain d|d|d:=Nat.lt_trichotomy i j
  .have Y:(((i:Nat):Int) != ((j:Nat):Int))=true:=by simp;omega
   have t2:¬((i:Nat):Int) > ((j:Nat):Int):=by omega
   obtain⟨q,X,r⟩:∃q:Nat,((m:Nat):Int)+((j:Nat):Int)-((i:Nat):Int)=(q:Nat)/\Ze (q+i=m+j):=⟨m+j-i,by omega,by unfold Ze;omega⟩;have C:=Z<|u wr L p q i A (by have:=r.o;omega) (by have:=a.o;omega) (by have:=r.o;omega);have F:Ze<|gS T m i (j-i)<|jY L p q i:=by have:=Cz B d;rw[show m-i=p by have:=a;omega,show m+j-i=q by have:=r;omega]at this;exact this
   go_wp2_with refine C.mono ?_;rintro e w1⟨rfl,hs⟩;have E:=Z hs;go_wp2;go_roundw;exact⟨i,j-i,rfl,by go_num,x,by omega,M,by omega,_,E,F⟩;simp[Zk];omega
  .subst d;have E:(((i:Nat):Int) != ((i:Nat):Int))=false:=by simp
   have r:=Z<|u wr L p m i A g (by have:=a.o;omega) z;have e:=GI B;rw[show m-i=p by have:=a;omega]at e;rw[e]at r;go_wp2_with refine r.mono ?_;rintro e F⟨rfl,hs⟩;have C:=Z hs;go_wp2;exact WL (v:=.tuple #[]) (by simp[Zh,results296,go_sem]) rfl ⟨rfl,C⟩
  have E:(((i:Nat):Int) != ((j:Nat):Int))=true:=by simp;omega
  have F:((i:Nat):Int) > ((j:Nat):Int):=by omega
  have C:Ze<|gS T m (i-j) j<|jY L p m j:=by have:=Ew B d;rw[show m-i=p by have:=a;omega]at this;exact this
  go_wp2_with fail;refine(Z<|u wr L p m j A g (by have:=a.o;omega) z).mono ?_;rintro e X⟨rfl,hs⟩;have r:=Z hs;go_wp2;go_roundw;exact⟨i-j,j,by go_num,rfl,by omega,y,by omega,z,_,r,C⟩;simp[Zk];omega
def nS.two(X:dD){c:SC}{wr:Za}{l:List Rk}(h:nS c wr l){i j:Nat}(N:i<c.n)(O:j<c.n):∃(k:Int)(x y:Rk)(d g t u:Y8)(r n q o B w A z:Nat),l[i]?=some x/\l[j]?=some y/\(k<0↔j6 c.a y x=false)/\(∀p:dx wr,p.val.cell? ⟨c.g,i*2,none⟩=some (.slice d r n))/\(∀p:dx wr,p.val.cell? ⟨c.g,i*2+1,none⟩=some (.slice g q o))/\(∀p:dx wr,p.val.cell? ⟨c.g,j*2,none⟩=some (.slice t B w))/\(∀p:dx wr,p.val.cell? ⟨c.g,j*2+1,none⟩=some (.slice u A z)) /\
 Ze (∀p:dx wr,Zc prog 175 #[.agg #[.slice d r n,.slice g q o],.agg #[.slice t B w,.slice u A z],qP c.b] p.val λe a=>e=.returned (qI k)/\∃F:dx wr,a=F.val):=by
 obtain⟨x,d,g,r,n,q,o,P,D,H,I,b,R,S,_⟩:=h.get N;obtain⟨y,t,u,B,w,A,z,Q,E,J,K,_,T,U,_⟩:=h.get O;have G:∀p:dx wr,Zc prog 175 #[.agg #[x.a,x.row],.agg #[y.a,y.row],qP c.b] p.val λe a=>e=.returned (qI<|cq x.b y.b<|pG c.a)/\∃F:dx wr,a=F.val:=λp=>by have C:=h.below p.d;exact(MY X x y c.base C.cmp (C.P.each x D) (C.P.each y E) (h.ok x D).1 (h.ok y E).1).mono (λe a ⟨M,L⟩=>⟨M,⟨a,p.d.trans<|L.mono p.d.size⟩,rfl⟩)
 rw[H,I,J,K]at G;exact⟨_,x,y,d,g,t,u,r,n,q,o,B,w,A,z,P,Q,MZ h.env.1 (h.ok x D)<|h.ok y E,dx.cell b R,dx.cell b S,dx.cell b T,dx.cell b U,G⟩
def yp(h:a<0↔b=false):(a<0->b=false)/\(¬a<0->b=true):=by
 cases b<;>simp_all
def EX(ks:List Key)(l:List Rk)(a b:Nat):Prop:=((l.drop a).take<|b-a).Pairwise λx y=>j6 ks x y=true
def half(h:i<j):∃h:Nat,((i:Int)+(j:Int)) / 2=(h:Nat)/\i<=h/\h<j:=⟨(i+j) / 2,by omega,by omega,by omega⟩
def UH(X:dD){c:SC}{l:List Rk}(d:nS c w l){m b:Nat}(a:m=n+1)(S:m<b)(B:b<=c.n)(e:EX c.a l m b):
 Zc prog 259 #[c.v,.int .i64 (n:Nat),.int .i64 (m:Nat),.int .i64 (b:Nat),lr c.b] w (E5 c<|ee (j6 c.a) l n m b):=by
 have hn:=d.env.2.2;obtain⟨z,_,_,_,_,_,_,(F:Ze _),_⟩:=d.get (i:=n) (by omega);have K:Ze (∀i,m<=i->i<=b->(∀y,m<i->l[i-1]?=some y->j6 c.a z y=false)->(∀y,i<b->l[i]?=some y->j6 c.a z y=true)->gS (ee (j6 c.a) l n m b) (n+1) 1 (i-m) l):=λi G M N O=>by subst a;rw[D3 (qu c.a) G M (d.len▸B) e F N O];have:=pw (l:=l) (a:=n) (m:=n+1) (b:=i) (by omega) G (by rw[d.len];omega);rw[show n+1-n=1 by omega]at this;exact this
 have A:=Z d;have g1:((m:Int)-(n:Int)==1)=true:=by simp;omega
 have H:n<m:=by omega
 generalize ee (j6 c.a) l n m b=T at*;have r:=Z a;unfold lr SC.v;have I:∀(n:Y_) (w:Za),(Zi 175 n).run prog w=.ok (.enter 175 n) w:=λn w=>by go_simp
 clear d e a;go_in;go_wp2
 go_loopw [10,11] (λs t wr=>∃i j:Nat,s=.int .i64 (i:Nat)/\t=.int .i64 (j:Nat)/\m<=i/\i<=j/\j<=b/\Ze (nS c wr l/\(∀y,m<i->l[i-1]?=some y->j6 c.a z y=false)/\(∀y,j<b->l[j]?=some y->j6 c.a z y=true))) (λs t _=>(Zk t).toNat-(Zk s).toNat)
 exact⟨m,b,rfl,rfl,VR _,by omega,VR _,A,λy h=>absurd h<|XT _,λy h=>absurd h<|XT _⟩
 case round=>
  obtain⟨i,j,rfl,rfl,o,Q,g,a⟩:=hrel;by_cases C:i<j
  .have Y:((i:Nat):Int)<((j:Nat):Int):=by omega
   obtain⟨h,hh,P,L⟩:=half C;obtain⟨k,x,y,xa,xb,ya,yb,xn,xc,xm,xd,yn,yc,ym,yd,(E:Ze _),e,hk,x0,x1,y0,y1,d⟩:=a.1.two X (i:=h) (j:=n) (by omega) (by omega);obtain rfl:y=z:=WD<|e.symm.trans F;have⟨U,V⟩:((h:Nat):Int)<((c.n:Nat):Int)/\((n:Nat):Int)<((c.n:Nat):Int):=by omega
   have D:=Z<|yp hk;clear e hk;go_wp2;have aa:Inhabited<|dx wr:=dx.first wr;refine eV (by kernel_rfl) (by kernel_rfl) ?_;repeat (go_big_quiet_step (exact d _))
   refine wpQuiet_nil ?_;intro _ q;obtain⟨pb,p⟩:=q;subst p;have e:=Z<|a.1.below pb.d;generalize pb.val=W at*;by_cases R:k<0
   .go_wp2;go_roundw;exact⟨h+1,j,by go_num,rfl,by omega,by omega,g,e,λu _ J=>by rw[Xi,E]at J;cases J;exact D.1<|by omega,a.2.2⟩;simp[Zk];omega
   go_wp2;go_roundw;exact⟨i,h,rfl,rfl,o,by omega,by omega,e,a.2.1,λu _ J=>by rw[E]at J;cases J;exact D.2<|by omega⟩;simp[Zk];omega
  obtain rfl:i=j:=by omega
  generalize wr=wo at*;go_wp2
  go_loopw [13] (λs wr=>∃k:Nat,s=.int .i64 (k:Nat)/\n<=k/\k<i/\Ze (∃L,nS c wr L/\gS T (k+1) 1 (i-1-k) L)) (λs _=>i-(Zk s).toNat)
  exact⟨n,rfl,VR _,by omega,l,Z a.1,by have:=(Z<|K i o g a.2.1 a.2.2).o;rw[r,show i-(n+1)=i-1-n by omega]at this;exact this⟩;obtain⟨k,rfl,J,P,D⟩:=hrel;obtain⟨L,(u:Ze _),e⟩:=D.o;by_cases d:k+1<i
  .have V:((k:Nat):Int)<((i:Nat):Int)-1:=by omega
   obtain⟨q,hq,p,x⟩:∃q:Nat,((k:Nat):Int)+1=(q:Nat)/\q<c.n/\Ze (q=k+1):=⟨k+1,by omega,by omega,rfl⟩;obtain⟨xa,xb,ya,yb,xn,xc,xm,xd,yn,yc,ym,yd,⟨n1,n2,n3,n4,n5,n6⟩,Y,x0,x1,y0,y1,W,A⟩:=u.q (i:=k) (j:=q) (by omega) p (by have:=x.o;omega);have E:Ze<|gS T (k+1+1) 1 (i-1-(k+1))<|pU L k q:=by rw[show i-1-k=i-1-(k+1)+1 by omega]at e;rw[x];exact Jm e
   have⟨R,U⟩:((k:Nat):Int)<((c.n:Nat):Int)/\((q:Nat):Int)<((c.n:Nat):Int):=by omega
   go_wp2;go_region;go_wp2;go_roundw;exact⟨k+1,by go_num,by omega,d,_,A,E⟩;simp[Zk];omega
  have p:¬((k:Nat):Int)<((i:Nat):Int)-1:=by omega
  obtain rfl:=xD e<|.inr (by omega);go_wp2;exact VI (v:=.tuple #[]) (by simp[Zh,results259,go_sem]) rfl ⟨rfl,u⟩
def UI(X:dD){c:SC}{l:List Rk}(a:nS c w l){m b:Nat}(Q:n<m)(g:¬m-n=1)(d:b=m+1)(B:b<=c.n)(h:EX c.a l n m):
 Zc prog 259 #[c.v,.int .i64 (n:Nat),.int .i64 (m:Nat),.int .i64 (b:Nat),lr c.b] w (E5 c<|ee (j6 c.a) l n m b):=by
 have hn:=a.env.2.2;obtain⟨z,_,_,_,_,_,_,(H:Ze _),_⟩:=a.get (i:=m) (by omega);have M:Ze (∀i,n<=i->i<=m->(∀y,n<i->l[i-1]?=some y->j6 c.a y z=true)->(∀y,i<m->l[i]?=some y->j6 c.a y z=false)->gS (ee (j6 c.a) l n m b) m (m-i) 1 l):=λi N I O P=>by subst d;have e:=Gg (qu c.a) N I (a.len▸B) h H O P;rw[e];have:=pw (l:=l) (a:=i) (m:=m) (b:=m+1) I (by omega) (by rw[a.len];omega);rw[show m+1-m=1 by omega]at this;exact this
 have A:=Z a;have g1:((m:Int)-(n:Int)==1)=false:=by simp;omega
 have g2:((b:Int)-(m:Int)==1)=true:=by simp;omega
 have K:m<b:=by omega
 generalize ee (j6 c.a) l n m b=T at*;unfold lr SC.v;have J:∀(n:Y_) (w:Za),(Zi 175 n).run prog w=.ok (.enter 175 n) w:=λn w=>by go_simp
 clear a h d g;go_in;go_wp2
 go_loopw [14,15] (λs t wr=>∃i j:Nat,s=.int .i64 (i:Nat)/\t=.int .i64 (j:Nat)/\n<=i/\i<=j/\j<=m/\Ze (nS c wr l/\(∀y,n<i->l[i-1]?=some y->j6 c.a y z=true)/\(∀y,j<m->l[j]?=some y->j6 c.a y z=false))) (λs t _=>(Zk t).toNat-(Zk s).toNat)
 exact⟨n,m,rfl,rfl,VR _,by omega,VR _,A,λy h=>absurd h<|XT _,λy h=>absurd h<|XT _⟩
 case round=>
  obtain⟨i,j,rfl,rfl,p,U,d,a⟩:=hrel;by_cases D:i<j
  .have aa:((i:Nat):Int)<((j:Nat):Int):=by omega
   obtain⟨h,hh,S,R⟩:=half D;obtain⟨k,x,y,xa,xb,ya,yb,xn,xc,xm,xd,yn,yc,ym,yd,o,(G:Ze _),hk,x0,x1,y0,y1,g⟩:=a.1.two X (i:=m) (j:=h) (by omega) (by omega);obtain rfl:x=z:=WD<|o.symm.trans H;have⟨V,Y⟩:((m:Nat):Int)<((c.n:Nat):Int)/\((h:Nat):Int)<((c.n:Nat):Int):=by omega
   have F:=Z<|yp hk;clear o hk;go_wp2;have ac:Inhabited<|dx wr:=dx.first wr;refine eV (by kernel_rfl) (by kernel_rfl) ?_;repeat (go_big_quiet_step (exact g _))
   refine wpQuiet_nil ?_;intro _ E;obtain⟨pb,r⟩:=E;subst r;have o:=Z<|a.1.below pb.d;generalize pb.val=W at*;by_cases q:k<0
   .have C:(!decide (k<0))=false:=by simpa using q
    rw[C];go_wp2;go_roundw;exact⟨i,h,rfl,rfl,p,by omega,by omega,o,a.2.1,λu _ L=>by rw[G]at L;cases L;exact F.1<|by omega⟩;simp[Zk];omega
   have C:(!decide (k<0))=true:=by simpa using q
   rw[C];go_wp2;go_roundw;exact⟨h+1,j,by go_num,rfl,by omega,by omega,d,o,λu _ L=>by rw[Xi,G]at L;cases L;exact F.2<|by omega,a.2.2⟩;simp[Zk];omega
  obtain rfl:i=j:=by omega
  generalize wr=wo at*;go_wp2
  go_loopw [17] (λs wr=>∃k:Nat,s=.int .i64 (k:Nat)/\i<=k/\k<=m/\Ze (∃L,nS c wr L/\gS T k (k-i) 1 L)) (λs _=>(Zk s).toNat)
  exact⟨m,rfl,d,VR _,l,Z a.1,Z<|M i p d a.2.1 a.2.2⟩;obtain⟨k,rfl,R,S,F⟩:=hrel;obtain⟨L,(C:Ze _),o⟩:=F.o;by_cases E:i<k
  .have ab:((k:Nat):Int) > ((i:Nat):Int):=by omega
   obtain⟨q,hq,g⟩:∃q:Nat,((k:Nat):Int)-1=(q:Nat)/\Ze (k=q+1):=⟨k-1,by omega,by unfold Ze;omega⟩;have x:q<c.n:=by have:=g.o;omega
   obtain⟨xa,xb,ya,yb,xn,xc,xm,xd,yn,yc,ym,yd,⟨n1,n2,n3,n4,n5,n6⟩,hg,x0,x1,y0,y1,hf,A⟩:=C.q (i:=k) (j:=q) (by omega) x (by have:=g.o;omega);have G:Ze<|gS T q (q-i) 1<|pU L k q:=by rw[show k-i=q-i+1 by omega]at o;rw[g]at o ⊢;exact Ev o
   have r:i<=q:=by have:=g.o;omega
   have u:q<=m:=by have:=g.o;omega
   have Y:q<k:=by have:=g.o;omega
   have⟨V,W⟩:((k:Nat):Int)<((c.n:Nat):Int)/\((q:Nat):Int)<((c.n:Nat):Int):=by omega
   go_wp2;go_region;go_wp2;go_roundw;exact⟨q,rfl,r,u,_,A,G⟩;simp[Zk];omega
  have g:¬((k:Nat):Int) > ((i:Nat):Int):=by omega
  obtain rfl:=xD o<|.inl (by omega);go_wp2;exact VI (v:=.tuple #[]) (by simp[Zh,results259,go_sem]) rfl ⟨rfl,C⟩
def vB(a b:Nat):((a:Int)<(b:Int)/\a<b)\/(¬(a:Int)<(b:Int)/\¬a<b):=by omega
def UJ(X:dD){c:SC}(N:Nat)(O:∀(a m b:Nat)(w:Za)(l:List Rk),b-a<=N->a<m->m<b->b<=c.n->nS c w l->EX c.a l a m->EX c.a l m b->Zc prog 259 #[c.v,.int .i64 (a:Nat),.int .i64 (m:Nat),.int .i64 (b:Nat),lr c.b] w (E5 c<|ee (j6 c.a) l a m b))
 {w:Za}{l:List Rk}(hS:nS c w l){a m b:Nat}(hN:b-a<=N+1)(al:a<m)(av:m<b)(ab:b<=c.n)(am:¬m-a=1)(an:¬b-m=1)(Q:EX c.a l a m)(R:EX c.a l m b):
 Zc prog 259 #[c.v,.int .i64 (a:Nat),.int .i64 (m:Nat),.int .i64 (b:Nat),lr c.b] w (E5 c<|ee (j6 c.a) l a m b):=by
 have hn:=hS.env.2.2;obtain⟨d,hd,ak,ao,HD⟩:∃d:Nat,((a:Int)+(b:Int)) / 2=(d:Nat)/\a<d/\d<b/\Ze (2*d<=a+b/\a+b<=2*d+1):=⟨(a+b) / 2,by omega,by omega,by omega,by unfold Ze;omega⟩
 have HF:Ze (∀s e,a<=s->s<=m->m<=e->e<=b->d+m=s+e->(∀x y,a<s->e<b->l[s-1]?=some x->l[e]?=some y->j6 c.a x y=true)->(∀x y,s<m->m<e->l[s]?=some x->l[e-1]?=some y->j6 c.a x y=false) ->
  ∃n p,ee (j6 c.a) p d e b=ee (j6 c.a) l a m b/\ee (j6 c.a) n a s d=p/\gm l s m e=n/\n.length=c.n/\p.length=c.n/\EX c.a n a s/\EX c.a n s d/\EX c.a p d e/\EX c.a p e b):=λs e h0 r z G L M h6=>by
  have hl:=hS.len;have S:=Hj (qu c.a) h0 r z G (by omega) Q R M h6;rw[show s+e-m=d by omega]at S;have D:=CH h0 r z G (by omega) L Q R;have l1:(gm l s m e).length=c.n:=by rw[Eu r z<|by omega,hl]
  have l2:(ee (j6 c.a) (gm l s m e) a s d).length=c.n:=by rw[Ei h0 (by omega)<|by omega,l1]
  exact⟨_,_,S,rfl,rfl,l1,l2,D.1,D.2.1,D.2.2.1,D.2.2.2⟩
 have K:Ze (∀s e,s<m->m<e->e<=b->∀W,nS c W l->Zc prog 296 #[.slice (some ⟨c.g,0,none⟩) c.n c.cap,.int .i64 (s:Nat),.int .i64 (m:Nat),.int .i64 (e:Nat),lr c.b] W (E5 c<|gm l s m e)):=λs e r z G W h=>Qr h r z (by omega);have E:Ze (∀s n p,a<s->s<d->EX c.a n a s->EX c.a n s d->ee (j6 c.a) n a s d=p->∀W,nS c W n->Zc prog 259 #[.slice (some ⟨c.g,0,none⟩) c.n c.cap,.int .i64 (a:Nat),.int .i64 (s:Nat),.int .i64 (d:Nat),lr c.b] W (E5 c p)):=λs n p r z G L M W h=>M▸O a s d W n (by omega) r z (by omega) h G L;have F:Ze (∀e n p,d<e->e<b->EX c.a n d e->EX c.a n e b->ee (j6 c.a) n d e b=p->∀W,nS c W n->Zc prog 259 #[.slice (some ⟨c.g,0,none⟩) c.n c.cap,.int .i64 (d:Nat),.int .i64 (e:Nat),.int .i64 (b:Nat),lr c.b] W (E5 c p)):=λe n p r z G L M W h=>M▸O d e b W n (by omega) r z ab h G L;have HS:=Z hS;have g1:((m:Int)-(a:Int)==1)=false:=by simp;omega
 have g2:((b:Int)-(m:Int)==1)=false:=by simp;omega
 obtain⟨A,ax,g⟩:∃A:Nat,((d:Nat):Int)+((m:Nat):Int)=(A:Nat)/\Ze (A=d+m):=⟨d+m,by omega,rfl⟩;have ay:A<=2*c.n:=by have:=g.o;omega
 obtain⟨C,B,o⟩:∃C B:Nat,Ze<|a<=C/\C<=B/\B<=d/\B<=m/\d+m<=C+b/\(C=a\/C+b=d+m)/\(B=d\/B=m)/\((d<m/\C+b=d+m/\B=d)\/(¬d<m/\C=a/\B=m)):=by
  have:=HD.o;by_cases h:d<m
  .exact⟨d+m-b,d,by unfold Ze;omega⟩
  exact⟨a,m,by unfold Ze;omega⟩
 generalize hT:ee (j6 c.a) l a m b=T at*;unfold lr SC.v at*;have aj:∀(a:Y_) (w:Za),(Zi 175 a).run prog w=.ok (.enter 175 a) w:=λa w=>by go_simp
 obtain⟨t0,ad⟩|⟨t0,ad⟩:=vB d m;all_goals
  try have q0:((A:Nat):Int)-((b:Nat):Int)=((C:Nat):Int):=by have:=o.o;have:=g.o;omega
  go_in;go_wp2
  go_loopw [20,21] (λs t wr=>∃i j:Nat,s=.int .i64 (i:Nat)/\t=.int .i64 (j:Nat)/\C<=i/\i<=j/\j<=B/\Ze (nS c wr l/\(∀x y,C<i->l[i-1]?=some x->l[A-i]?=some y->j6 c.a x y=true)/\(∀x y,j<B->l[j]?=some x->l[A-1-j]?=some y->j6 c.a x y=false))) (λs t _=>(Zk t).toNat-(Zk s).toNat)
  case atStart=>
   refine⟨C,B,?_,?_,VR _,o.2.1,VR _,HS,λx y h=>absurd h<|XT _,λx y h=>absurd h<|XT _⟩
   .first|rfl|(have e:a=C:=by(have:=o.o;omega));rw[e]
   first|(have e:d=B:=by(have:=o.o;omega));rw[e]|(have e:m=B:=by(have:=o.o;omega));rw[e]
  case round=>
   obtain⟨i,j,rfl,rfl,ah,au,af,I⟩:=hrel;have aA:B<=m:=o.2.2.2.1;by_cases ag:i<j
   .have aB:((i:Nat):Int)<((j:Nat):Int):=by omega
    obtain⟨h,hh,ar,ap⟩:=half ag;obtain⟨q,hq,Y,HQ⟩:∃q:Nat,((A:Nat):Int)-1-((h:Nat):Int)=(q:Nat)/\q<c.n/\Ze (q+1+h=A):=⟨A-1-h,by have:=o.o;have:=g.o;omega,by have:=o.o;have:=g.o;omega,by have:=o.o;have:=g.o;unfold Ze;omega⟩;obtain⟨k,x,y,xa,xb,ya,yb,xn,xc,xm,xd,yn,yc,ym,yd,u,J,hk,x0,x1,y0,y1,H⟩:=I.1.two X (i:=q) (j:=h) Y (by omega);have⟨aw,az⟩:((q:Nat):Int)<((c.n:Nat):Int)/\((h:Nat):Int)<((c.n:Nat):Int):=by omega
    have HX:=Z u;have HY:=Z J;have HK:=Z<|yp hk;clear u J hk;go_wp2;have aC:Inhabited<|dx wr:=dx.first wr;refine eV (by kernel_rfl) (by kernel_rfl) ?_;repeat (go_big_quiet_step (exact H _))
    refine wpQuiet_nil ?_;intro _ ai;obtain⟨pb,U⟩:=ai;subst U;have J:=Z<|I.1.below pb.d;generalize pb.val=W at*;by_cases P:k<0
    .have V:(!decide (k<0))=false:=by simpa using P
     rw[V];go_wp2;go_roundw;exact⟨i,h,rfl,rfl,ah,by omega,by omega,J,I.2.1,λu v _ hu hv=>by rw[HY]at hu;rw[show A-1-h=q by have:=HQ;omega,HX]at hv;cases hu;cases hv;exact HK.1<|by omega⟩;simp[Zk];omega
    have V:(!decide (k<0))=true:=by simpa using P
    rw[V];go_wp2;go_roundw;exact⟨h+1,j,by go_num,rfl,by omega,by omega,af,J,λu v _ hu hv=>by rw[Xi,HY]at hu;rw[show A-(h+1)=q by have:=HQ;omega,HX]at hv;cases hu;cases hv;exact HK.2<|by omega,I.2.2⟩;simp[Zk];omega
   obtain rfl:i=j:=by omega
   obtain⟨e,he,k⟩:∃e:Nat,((A:Nat):Int)-((i:Nat):Int)=(e:Nat)/\Ze (e+i=A):=⟨A-i,by have:=o.o;have:=g.o;omega,by have:=o.o;have:=g.o;unfold Ze;omega⟩;have q:=I.o;obtain⟨n,p,f1,f2,f3,f4,f5,f6,f7,f8,f9⟩:=HF.o i e (by have:=o.o;omega) (by omega) (by have:=o.o;have:=g.o;have:=k.o;omega) (by have:=o.o;have:=g.o;have:=k.o;omega) (by have:=g.o;have:=k.o;omega)
    (λx y r z hx hy=>q.2.1 x y (by have:=o.o;have:=g.o;have:=k.o;omega) hx (by rw[show A-i=e by have:=k;omega];exact hy))
    (λx y r z hx hy=>q.2.2 x y (by have:=o.o;have:=g.o;have:=k.o;omega) hx (by rw[show A-1-i=e-1 by have:=k;omega];exact hy))
   have ae:m<=e:=by have:=o.o;have:=g.o;have:=k.o;omega
   have u:e<=b:=by have:=o.o;have:=g.o;have:=k.o;omega
   have aa:a<=i:=by have:=o.o;omega
   have hid:i<=d:=by have:=o.o;omega
   have Y:Ze (¬(i<m/\m<e)->∀W,nS c W l->nS c W n):=λH W P=>by rw[<-f3,Cy (by omega) ae (by have:=q.1.len;omega) H];exact P
   have U:Ze (¬(a<i/\i<d)->∀W,nS c W n->nS c W p):=λH W P=>by rw[<-f2,uz aa hid (by omega) H];exact P
   have N3:Ze (¬(d<e/\e<b)->∀W,nS c W p->nS c W T):=λH W P=>by rw[<-f1,uz (by omega) u (by omega) H];exact P
   have R1:Ze<|i<m->m<e->Zc prog 296 #[.slice (some ⟨c.g,0,none⟩) c.n c.cap,.int .i64 (i:Nat),.int .i64 (m:Nat),.int .i64 (e:Nat),.func (.func 175) #[] #[.pointer<|some ⟨c.b,0,none⟩]] wr (E5 c n):=λr z=>f3▸K i e r z u wr q.1;have R2:=Z λr z=>E i n p r z f6 f7 f2;have R3:=Z λr z=>F e p T r z f8 f9 f1;have S0:=Z q.1;have aq:i<m/\m<e->i<d/\d<e:=by have:=g.o;have:=k.o;omega
   have ac:(d<e↔i<m)/\(i<d↔m<e):=by have:=g.o;have:=k.o;omega
   have V:=Z ac;obtain⟨t1,hA⟩|⟨t1,hA⟩:=vB i m<;>obtain⟨t2,hB⟩|⟨t2,hB⟩:=vB m e<;>obtain⟨t3,hC⟩|⟨t3,hC⟩:=vB a i<;>obtain⟨t4,hG⟩|⟨t4,hG⟩:=vB e b<;>obtain⟨t5,hH⟩|⟨t5,hH⟩:=vB i d<;>obtain⟨t6,hK⟩|⟨t6,hK⟩:=vB d e;all_goals first
    |(exfalso;have:=V.o;omega)
    | (go_wp2_with (first
     |(go_at_call 296;apply(R1 hA hB).mono;rintro e w5⟨rfl,J⟩;have S1:=Z J;clear J)
     |(go_at_call 259;apply(R2 hC hH _<|by first|exact S1|exact Y (by omega) _ S0).mono;rintro e w6⟨rfl,J⟩;have S2:=Z J;clear J R2)
     | (go_at_call 259;refine(R3 hK hG _<|by first|exact S2|exact U (by omega) _ S1|exact U (by omega) _ (Y (by omega) _ S0)).mono ?_;rintro e w7⟨rfl,J⟩;have S3:=Z J;clear J))
       exact WL (v:=.tuple #[]) (by simp[Zh,results259,go_sem]) rfl ⟨rfl,by first|exact S3|exact N3 (by omega) _ S2|exact N3 (by omega) _ (U (by omega) _ S1)|exact N3 (by omega) _ (U (by omega) _<|Y (by omega) _ S0)⟩)
def UG(X:dD){c:SC}:∀(N a m b:Nat)(w:Za)(l:List Rk),b-a<=N->a<m->m<b->b<=c.n->nS c w l->EX c.a l a m->EX c.a l m b->Zc prog 259 #[c.v,qI (a:Nat),qI (m:Nat),qI (b:Nat),lr c.b] w (E5 c<|ee (j6 c.a) l a m b)
 |0,a,m,b,w,l,h1,h2,h3,_,_,_,_=>by omega
 |N+1,a,m,b,w,l,hN,ham,hmb,hbn,hS,h1,h2=>by
  by_cases d:m-a=1
  .exact UH X hS (by omega) hmb hbn h2
  by_cases e:b-m=1
  .exact UI X hS ham d (by omega) hbn h1
  exact UJ X N (UG X N) hS hN ham hmb hbn d e h1 h2
structure KT(c:SC)(xs l0:List Rk)(k a:Nat)(wr:Za):Prop where
 ex:∃l i,nS c wr l/\a=i*k/\nT (j6 c.a) xs l k i/\l.drop a=l0.drop a
def Rt(c:SC)(xs:List Rk)(k:Nat)(wr:Za):Prop:=∃l,nS c wr l/\∀j,nT (j6 c.a) xs l k j
def KT.put{c:SC}{a p l M:List Rk}(u:nT (j6 c.a) a l k i)(r:n=i*k)(t:l.drop n=p.drop n)(x:n+M.length=j)(b:j<=l.length)(e:M=bL (j6 c.a) (fY a k i))(o:nS c w<|l.take n++(M++l.drop j)):
 (j=n+k->KT c a p k j w)/\(j=a.length->Rt c a k w):=by
 subst r;obtain⟨d,q⟩:=Mg u x b e;refine⟨λg=>⟨_,i+1,o,by rw[Xp];exact g,d,?_⟩,λg=>⟨_,o,DE d ?_⟩⟩
 .have:j=i*k+(j-i*k):=by omega
  rw[q,this,<-Xu,t,Xu]
 .have h:M.length<=k:=by rw[e,iq,Aw];exact Nat.min_le_left _ _
  rw[Xp];omega
def Jz(X:dD){c:SC}{g:List Rk}(S:nS c w g)(h0:1<=c.n):
 Zc prog 229 #[c.v,.int .i64 (c.n:Nat),lr c.b] w (E5 c<|bL (j6 c.a) g):=by
 have hn:=S.env.2.2;have G:=S.len;have x:Ze (∀a b wr,a<=b->b<=c.n->(b=a+20\/b=c.n/\b<=a+20)->KT c g g 20 a wr->Zc prog 258 #[c.v,.int .i64 (a:Nat),.int .i64 (b:Nat),lr c.b] wr λe C=>e=.returned (.tuple #[])/\(b=a+20->KT c g g 20 b C)/\(b=c.n->Rt c g 20 C)):=λa b wr u q H ⟨l,i,d,n,K,t⟩=>by
  apply(TY X c.c d.env.1 u q d.len hn d.P d.cmp d.env.2.1 d.ok).mono;rintro e C⟨rfl,A,r⟩;have B:bL (j6 c.a) ((l.drop a).take<|b-a)=bL (j6 c.a) (fY g 20 i):=by
   unfold fY;rw[t,<-n];obtain H|⟨H,h⟩:=H
   .rw[show b-a=20 by omega]
   rw[VX (by rw[Wp];omega),VX (by rw[Wp];omega)]
  have p:a+(bL (j6 c.a)<|(l.drop a).take<|b-a).length=b:=by rw[iq,Wl,Wp,d.len];omega
  have D:nS c C<|l.take a++(bL (j6 c.a) ((l.drop a).take<|b-a)++l.drop b):=by
   refine⟨A,d.cmp.aL λk hk=>r.block k (by obtain⟨F,H,_⟩:=d.cmp.box;have:=lB H;omega) (by have:=d.env;omega),d.d.trans r,λz h=>d.ok z ?_,?_,d.env⟩
   .obtain h|h:=V1.1 h
    .exact Wr h
    obtain h|h:=V1.1 h
    .exact WI<|Wr<|iO h
    exact WI h
   have:=d.len;simp only[VH,Wl,Wp]at p ⊢;omega
  have:=KT.put K n t p (d.len▸q) B D;rw[G]at this;exact⟨rfl,this⟩
 have y:Ze (∀k a b wr o,0<k->a+k<b->b<=c.n->(b=a+2*k\/b=c.n/\b<=a+2*k)->(∀j,nT (j6 c.a) g o k j)->KT c g o (2*k) a wr->Zc prog 259 #[c.v,.int .i64 (a:Nat),.int .i64 ((a+k:Nat):Int),.int .i64 (b:Nat),lr c.b] wr λe C=>e=.returned (.tuple #[])/\(b=a+2*k->KT c g o (2*k) b C)/\(b=c.n->Rt c g (2*k) C)):=λk a b wr o hk u q H L ⟨l,i,d,n,K,t⟩=>by
  have p:l.drop (a+k)=o.drop (a+k):=by rw[<-Xu,t,Xu]
  obtain⟨A,B,z⟩:=Mf (qu c.a) (c:=b-(a+k)) (i:=i) L (by rw[<-n];omega) (by omega);rw[<-n,<-p]at B z;rw[<-n,<-t]at A;rw[<-t]at z;refine(UG X (b-a) a (a+k) b wr l (VR _) (by omega) u q d (by rw[EX,Xx];exact A) B).mono ?_;rintro e C⟨rfl,h⟩;unfold ee at h;rw[Xx]at h;have r:a+(eS (j6 c.a) ((l.drop a).take k)<|(l.drop<|a+k).take<|b-(a+k)).length=b:=by rw[mA,Wl,Wl,Wp,Wp,d.len];omega
  have:=KT.put K n t r (d.len▸q) z h;rw[G]at this;exact⟨rfl,this⟩
 have R:Ze (∀k wr,Rt c g k wr->∃o,(∀j,nT (j6 c.a) g o k j)/\KT c g o (2*k) 0 wr):=λk wr ⟨l,d,n⟩=>⟨l,n,⟨l,0,d,(Yy _).symm,⟨d.len.trans G.symm,λj U=>absurd U<|Nat.not_lt_zero _⟩,rfl⟩⟩;have E:Ze (∀k a wr o,c.n<=a+k->(∀j,nT (j6 c.a) g o k j)->KT c g o (2*k) a wr->Rt c g (2*k) wr):=λk a wr o hn L ⟨l,i,d,n,K,t⟩=>by subst n;exact⟨l,d,DE (JM K L t<|by omega) (by rw[Xp];omega)⟩
 have I:Ze (∀k wr,c.n<=k->Rt c g k wr->E5 c (bL (j6 c.a) g) (.returned<|.tuple #[]) wr):=λk wr hk ⟨l,d,n⟩=>⟨rfl,Me (n 1) (by omega)▸d⟩;have O:Ze<|KT c g g 20 0 w:=⟨g,0,S,rfl,⟨rfl,λj U=>absurd U<|Nat.not_lt_zero _⟩,rfl⟩;generalize E5 c (bL (j6 c.a) g)=aa at*;generalize lr c.b=cf at*;unfold SC.v at*;go_in;go_wp2
 go_loopw [7,8] (λW Y wr=>∃a b:Nat,W=.int .i64 (a:Nat)/\Y=.int .i64 (b:Nat)/\Ze (b=a+20)/\a<=c.n/\Ze (KT c g g 20 a wr)) (λ_ s _=>c.n+21-(Zk s).toNat)
 exact⟨0,20,rfl,rfl,rfl,Wi _,O⟩
 case round=>
  obtain⟨a,b,rfl,rfl,r,T,J⟩:=hrel;have u:a<=b:=by have:=r.o;omega
  have ab:a<b:=by have:=r.o;omega
  by_cases N:b<=c.n
  .have z:((b:Nat):Int)<=((c.n:Nat):Int):=by omega
   have p:=Z<|x a b wr (by omega) N (.inl r.o) J;go_wp2_with refine p.mono ?_;rintro e A⟨rfl,d,_⟩;have h:=Z<|d r;go_wp2;go_roundw;exact⟨b,b+20,rfl,by go_num,rfl,N,h⟩;simp[Zk];omega
  have ak:¬((b:Nat):Int)<=((c.n:Nat):Int):=by omega
  have D:=Z<|x a c.n wr T (VR _) (.inr ⟨rfl,by have:=r.o;omega⟩) J;go_wp2_with fail;refine D.mono ?_;rintro e w1⟨rfl,_,d⟩;go_wp2
  go_loopw [6,7,8,9] (λs6 _ _ _ wr=>∃h:Nat,s6=.int .i64 (h:Nat)/\20<=h/\h<=2*c.n+20/\Ze (Rt c g h wr)) (λs _ _ _ _=>c.n-(Zk s).toNat)
  exact⟨20,rfl,by omega,by omega,Z<|d<|by trivial⟩;obtain⟨h,rfl,aj,q,J⟩:=hrel;by_cases ae:h<c.n
  .have af:((h:Nat):Int)<((c.n:Nat):Int):=by omega
   obtain⟨o,L,(P:Ze _)⟩:=R.o h wr J;have F:=Z L;go_wp2
   go_loopw [7,8] (λW Y wr=>∃a b:Nat,W=.int .i64 (a:Nat)/\Y=.int .i64 (b:Nat)/\Ze (b=a+2*h)/\a<=c.n/\Ze (KT c g o (2*h) a wr)) (λ_ s _=>c.n+2*h+1-(Zk s).toNat)
   exact⟨0,2*h,rfl,by go_num,(XC _).symm,Wi _,P⟩;obtain⟨z,A,rfl,rfl,p,ad,Q⟩:=hrel;have M:z+h<A:=by have:=p.o;omega
   have ac:A<=z+2*h:=by have:=p.o;omega
   by_cases B:A<=c.n
   .have V:((A:Nat):Int)<=((c.n:Nat):Int):=by omega
    have D:=Z<|y h z A wr o (by omega) M B (.inl p.o) F Q;rw[YB]at D;go_wp2_with fail;refine D.mono ?_;rintro e w2⟨rfl,n,_⟩;have H2:=Z<|n p;go_wp2;go_roundw;exact⟨A,A+2*h,rfl,by go_num,rfl,B,H2⟩;simp[Zk];omega
   have ag:¬((A:Nat):Int)<=((c.n:Nat):Int):=by omega
   by_cases V:z+h<c.n
   .have ah:((z:Nat):Int)+((h:Nat):Int)<((c.n:Nat):Int):=by omega
    have D:=Z<|y h z c.n wr o (by omega) V (VR _) (.inr ⟨rfl,by omega⟩) F Q;rw[YB]at D;go_wp2_with fail;refine D.mono ?_;rintro e w2⟨rfl,_,n⟩;have H2:=Z<|n (by trivial);go_wp2;go_roundw;exact⟨h*2,by go_num,by omega,by omega,by rw[Xg];exact H2⟩;simp[Zk];omega
   have ai:¬((z:Nat):Int)+((h:Nat):Int)<((c.n:Nat):Int):=by omega
   go_wp2;go_roundw;exact⟨h*2,by go_num,by omega,by omega,by rw[Xg];exact(Z<|E h z wr o (by omega) F Q)⟩;simp[Zk];omega
  have p:¬((h:Nat):Int)<((c.n:Nat):Int):=by omega
  go_wp2;exact WL (v:=.tuple #[]) (by simp[Zh,results229,go_sem]) rfl<|Z<|I h wr (by omega) J
def QD(X:dD):tp 1048576 n:=by
 intro ks k9 ob base v c w o b y j k i a;obtain⟨rfl,z⟩|⟨g,cap,p,rfl,u,x,_⟩:=j.own.2
 .exact G9 X (L:=n) ks k9 ob base _ c w o b (by omega) j k i a
 by_cases q:1<=c.length
 .have r:∀e d,(λ(e:Ending) (d:Za)=>e=.returned (.tuple #[])/\zH d base (qL g c.length cap) (bL (j6 ks) c)/\Below base w d) e d->e=.returned (.tuple #[]):=λe d h=>h.1;have t:nS ⟨ks,k9,ob,base,g,cap,c.length,w⟩ w c:=⟨j,k,aH.refl _ _,a,rfl,b,by show ob<g;omega,y⟩;refine uM _ r<|(Jz X t q).mono ?_;rintro e d⟨rfl,l⟩;exact⟨rfl,l.P,xg l.d u (by have:=lB x;omega)⟩
 exact G9 X (L:=n) ks k9 ob base _ c w o b (by omega) j k i a
