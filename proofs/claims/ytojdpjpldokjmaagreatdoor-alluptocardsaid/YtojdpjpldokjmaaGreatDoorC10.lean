import Derived.WalkMore
import Derived.Test.YtojdpjpldokjmaaGreatDoorC08
set_option maxHeartbeats 0
set_option maxRecDepth 100000
set_option linter.all false
namespace Go.Proofs.YtojdpjpldokjmaaGreatDoor
open Go.Deep Go.RowKit Tryz
open Go renaming World->Za,Value->Zb,Calls->Zc,Ending->Zg,results->Zh,maxLen->Zj
open RowKit renaming Below->Zd,Hid->Ze,intOf->Zk
variable{F:YY}{R:aA}{W w:World}{i j k n:Nat}{A B u z:Value}{I J:YW}{N O:List YW}{M a:Int}{b:Bool}
abbrev au:=YW×Go.Value
abbrev YZ:=List au
def cu(ab:YY)(c:aA):YZ->aV (YZ×YZ)
 |[]=>.ok ([],[])
 |r::rs=>match bZ ab r.1 c with
  |.error e=>.error e
  |.ok v=>match cu ab c rs with
   |.error e=>.error e
   |.ok z=>.ok<|@ite _ (v=bh true) (j3 v<|bh true) (r::z.1,z.2) (z.1,r::z.2)
def wQ:aV (YZ×YZ)->aV (List YW×List YW)
 |.error e=>.error e
 |.ok z=>.ok (z.1.map (·.1),z.2.map (·.1))
def fE(a:YY)(c:aA):∀b:YZ,j9 a c (b.map (·.1))=wQ (cu a c b)
 |[]=>rfl
 |p::b=>by
  rw[We,j9,cu];cases bZ a p.1 c with
  |error e=>rfl
  |ok v=>
   simp only;rw[fE a c b];cases cu a c b with
   |error e=>rfl
   |ok z=>
    simp only[wQ];split<;>rfl
def me:∀{g:YZ}{z:YZ×YZ},cu F R g=.ok z->(∀p∈z.1,p∈g)/\(∀p∈z.2,p∈g)/\z.1.length+z.2.length=g.length
 |[],z,h=>by simp[cu]at h;subst h;simp
 |r::rs,z,h=>by
  unfold cu at h;cases he:bZ F r.1 R with
  |error e=>rw[he]at h;cases h
  |ok v=>
   rw[he]at h;simp only at h;cases hs:cu F R rs with
   |error e=>rw[hs]at h;cases h
   |ok y=>
    rw[hs]at h;simp only at h;obtain⟨a,b,d⟩:=me hs;injection h with h;split at h
    .subst h;refine⟨λx c=>?_,λx c=>WH _<|b x c,by simp;omega⟩;obtain rfl|c:=V8.1 c
     .simp
     exact WH _<|a x c
    subst h;refine⟨λx c=>WH _<|a x c,λx c=>?_,by simp;omega⟩;obtain rfl|c:=V8.1 c
    .simp
    exact WH _<|b x c
def iK(a b:YZ):aV (YZ×YZ)->aV (YZ×YZ)
 |.error e=>.error e
 |.ok z=>.ok (a++z.1,b++z.2)
def rS{p:au}{c a b:YZ}{e:Nat}(h:bZ F p.1 R=.error e):iK a b (cu F R<|p::c)=.error e:=by rw[cu,h];rfl
def rT{p:au}{c a b:YZ}{v:ai}(h:bZ F p.1 R=.ok v)(d:v=bh true):iK a b (cu F R<|p::c)=iK (a++[p]) b (cu F R c):=by
 rw[cu,h];simp only;cases cu F R c with
 |error e=>rfl
 |ok z=>simp only[VG d,iK];simp
def uX{p:au}{c a b:YZ}{v:ai}(h:bZ F p.1 R=.ok v)(d:¬v=bh true):iK a b (cu F R<|p::c)=iK a (b++[p]) (cu F R c):=by
 rw[cu,h];simp only;cases cu F R c with
 |error e=>rfl
 |ok z=>simp only[VF d,iK];simp
def rO(w:Za)(hi:Nat)(ps:YZ)(v:Zb):Prop:=br w hi 1 (λp=>[p.2]) ps v/\∀p∈ps,br w hi 3 vC p.1 p.2
def rO.aL{w':Za}{b:YZ}{v:Zb}(h:rO w n b v)(a:∀k,k<n->w'.heap[k]?=w.heap[k]?):rO w' n b v:=⟨h.1.aL a,λp c=>(h.2 p c).aL a⟩
def rO.more{b:YZ}{v:Zb}(h:rO w n b v)(a:n<=k):rO w k b v:=⟨h.1.more a,λp c=>(h.2 p c).more a⟩
def rO.below{b:YZ}{v:Zb}(h:rO w w.heap.size b v)(a:qB w W):rO W W.heap.size b v:=(h.aL λk hk=>a.block k hk).more a.size
def df(ps:YZ):Y0:=ps.map (·.2)
def yy(b:YZ):b.flatMap (λp=>[p.2])=df b:=by
 induction b with
 |nil=>rfl
 |cons a l ih=>rw[Xc,ih];rfl
def qy{base:Nat}{a:YZ}{v:Zb}(h:w.ownsRow base 32 1 v a.length<|df a)(b:∀p∈a,br w w.heap.size 3 vC p.1 p.2):rO w w.heap.size a v:=by rw[<-yy]at h;exact⟨c7 (f:=λp:au=>[p.2]) (λx=>rfl) h qZ,b⟩
def E2(w:Za)(o:aV<|YZ×YZ)(e:Zg)(w':Za):Prop:=qB w w' /\
 ((∃er,o=.error er/\e=.returned (.tuple #[qN,qN,qI (er:Nat)])) \/
  (∃z v1 v2,o=.ok z/\e=.returned (.tuple #[v1,v2,qI 0])/\w'.ownsRow w.heap.size 32 1 v1 z.1.length (df z.1)/\w'.ownsRow w.heap.size 32 1 v2 z.2.length (df z.2)/\(z.2=[]->v2=qN)))
def tR(w wr:Za)(O:Obj)(o:aV<|YZ×YZ)(ab:YY)(c:aA)(ps:YZ)(i:Nat)(v1 v2:Zb)(a b:YZ):Prop:=
 Zd (w.heap.size+1) (w.alloc O) wr/\wr.ownsRow (w.heap.size+1) 32 1 v1 a.length (df a)/\wr.ownsRow (w.heap.size+1) 32 1 v2 b.length (df b)/\(∀k,v1.ownBlock=some k->v2.ownBlock≠some k)/\(b=[]->v2=qN)/\a.length+b.length=i/\o=iK a b (cu ab c<|ps.drop i)
def tR.low{wr:Za}{O:Obj}{o:aV (YZ×YZ)}{e:YZ}{a b:YZ}(h:tR w wr O o F R e i u z a b):qB w wr/\wr.heap[w.heap.size]?=some O/\w.heap.size+1<=wr.heap.size:=by have c:=h.1;have d:=c.size;simp at d;refine⟨((VM w.heap.size w).alloc qZ O).trans<|c.mono<|Xn _,?_,d⟩;rw[c.block _<|WC _];exact aM _ _
def tR.left{wr w2:Za}{O:Obj}{o:aV (YZ×YZ)}{g:YZ}{a b:YZ}{p:au}{x:ai}(h:tR w wr O o F R g i u z a b)(H:g.drop i=p::g.drop (i+1))(E:bZ F p.1 R=.ok x)(I:x=bh true)(n:qB wr w2)
 (d:W.ownsRow (w.heap.size+1) 32 1 A (a.length+1)<|df a++[p.2]) (t:w2.grownBy W u.ownBlock) (G:A.ownBlock=u.ownBlock\/A.ownBlock=some w2.heap.size):tR w W O o F R g (i+1) A z (a++[p]) b:=by
 obtain⟨q,B,l,r,C,K,D⟩:=h;have y:=q.size;simp at y;have J:=n.size;refine⟨a_ (q.trans<|n.mono y) t (λk hk=>(B.lt k hk).1)<|by omega,by simpa[df]using d,?_,λk hk c=>?_,C,by simp;omega,?_⟩
 .refine cN (aB n l) λk hk=>t.block k (by have:=(l.lt k hk).2;omega) λe=>r k e.symm hk
 .obtain j|j:=G
  .rw[j]at hk;exact r k hk c
  rw[j]at hk;injection hk with hk;have:=(l.lt k c).2;omega
 .rw[D,H];exact rT E I
def tR.right{wr w2:Za}{O:Obj}{o:aV (YZ×YZ)}{g:YZ}{a b:YZ}{p:au}{x:ai}(h:tR w wr O o F R g i u z a b)(H:g.drop i=p::g.drop (i+1))(D:bZ F p.1 R=.ok x)(I:¬x=bh true)(n:qB wr w2)
 (d:W.ownsRow (w.heap.size+1) 32 1 A (b.length+1)<|df b++[p.2]) (t:w2.grownBy W z.ownBlock) (G:A.ownBlock=z.ownBlock\/A.ownBlock=some w2.heap.size):tR w W O o F R g (i+1) u A a<|b++[p]:=by
 obtain⟨q,l,B,r,K,L,C⟩:=h;have y:=q.size;simp at y;have J:=n.size;refine⟨a_ (q.trans<|n.mono y) t (λk hk=>(B.lt k hk).1)<|by omega,?_,by simpa[df]using d,λk hk c=>?_,λE=>by simp at E,by simp;omega,?_⟩
 .refine cN (aB n l) λk hk=>t.block k (by have:=(l.lt k hk).2;omega) λe=>r k hk e.symm
 .obtain j|j:=G
  .rw[j]at c;exact r k hk c
  rw[j]at c;injection c with c;have:=(l.lt k hk).2;omega
 .rw[C,H];exact uX D I
def Rd(X:dD){d:YZ}(hm:rO w w.heap.size d u)(hp:i7 w w.heap.size F R z)(hf:gR F R)(G:∀p∈d,ke F p.1)(hl:d.length<=1048576):
 Zc prog 107 #[u,.agg #[z]] w (E2 w<|cu F R d):=by
 obtain⟨ra,rc,rfl⟩:=hm.1.slice;obtain⟨S,U,T,rfl⟩:=hp.slice;obtain⟨i0,hi,H,I,J⟩:=V5 iN;have P:=Z hm;have HP:=Z hp;have D:=Z G;generalize ho:cu F R d=o;have HO:=Z ho;go_in;go_wp2;go_step3;go_wp2;go_step3;go_wp2;have N:Ze<|tR w (w.alloc<|.cells #[.slice S U T] 204) (.cells #[.slice S U T] 204) o F R d 0 qN qN [] []:=
  ⟨qW,VP _ _ _ _,VP _ _ _ _,λk hk=>(by cases hk),λ_=>rfl,rfl,by rw[<-HO];simp;cases cu F R d<;>simp[iK]⟩
 go_loopw [7,8,15] (λs7 s8 ab wr=>∃(i:Nat) (a b:YZ),i<=d.length/\ab=qI i/\Ze (tR w wr (.cells #[.slice S U T] 204) o F R d i s7 s8 a b)) (λ_ _ a _=>d.length-(Zk a).toNat)
 exact⟨0,[],[],qO,rfl,N⟩
 case round=>
  obtain⟨i,a,b,aj,rfl,e⟩:=hrel;obtain⟨t,E,ag⟩:=e.low;have ak:w.heap.size<wr.heap.size:=by omega
  have bx:=bC E;obtain⟨al,an,am,rfl⟩:=aF e.2.1;obtain⟨ao,aq,ap,rfl⟩:=aF e.2.2.1;by_cases y:i<d.length
  .have Y:d[i]?=some d[i]:=VE y;have M:Ze<|d.drop i=d[i]::d.drop (i+1):=VJ y;have j:=VQ y;generalize d[i]=p at*;obtain⟨h,pv⟩:=p;obtain⟨g,cap,he,hg,e0⟩:=(P.1.aL λk hk=>t.block k hk).c Y;cases he;have ah:g<wr.heap.size:=by omega
   obtain⟨n,q,aa⟩:∃a R,pv=.slice a h.length R:=(P.2 _ j).slice;subst aa;have c:=Z<|IC X (HP.below t) ((P.2 _ j).below t) hf<|D _ j;simp only at e0;cases hev:bZ F h R with
   |error r=>
    have B:((r:Int) != 0)=true:=by have:=jc hev;simp;omega
    simp only at c;rw[hev]at c;have A:Ze<|o=.error r:=by rw[Ze,e.2.2.2.2.2.2,M];exact rS hev
    simp only[uh]at c;go_wp2_with apply qR c;intro C x;have l:=Z<|e.low.1.trans<|x.mono (by omega);go_wp2
    (try rw[Exit.noGoto_ret])
    go_ret3;exact⟨l,.inl ⟨r,A,rfl⟩⟩
   |ok x=>
    simp only at c;rw[hev]at c;simp only[uh]at c;have C:=Z hev;by_cases l:x=bh true
    .rw[ai.d l]at c;have Q:=Z l;go_wp2_with apply qR c;intro w2 r;have L:=Z r;have A:=aB r e.2.1;have K:=r.size;have ae:=e.2.2.2.2.2.1;go_wp2_with (at_builtin;refine Wv _ rfl (.tmp 31) (.tmp 33) 29 rfl (w.heap.size+1) 32 i0 _ 1 24 underlying29 hi H I J rfl (by decide) _ _ _ rfl (A.alloc _) ⟨w2.heap.size,0,none⟩ 1 1 [.slice n h.length q] rfl rfl ?c1 ?c2 ?c3 ?c4 ?c5 ?_)
     case c1=>exact cW w2 [.slice n h.length q] 32
     case c2=>intro x l;simp at l;subst l;rfl
     case c3=>unfold Zj;omega
     case c4=>omega
     case c5=>simp;omega
     intro v' w4 B V ac W;have O:=Z<|e.left (p:=(h,.slice n h.length q)) (w2:=w2.alloc<|.cells #[.slice n h.length q] 32) M C Q (L.alloc K _) B V (by simpa using W);go_wp2;go_roundw;exact⟨i+1,_,_,by omega,by go_num,O⟩;simp[Zk];omega
    rw[ai.l l]at c;have O:=Z l;go_wp2_with apply qR c;intro W r;have L:=Z r;have A:=aB r e.2.2.1;have K:=r.size;have af:=e.2.2.2.2.2.1;go_wp2_with (at_builtin;refine Wv _ rfl (.tmp 35) (.tmp 37) 29 rfl (w.heap.size+1) 32 i0 _ 1 24 underlying29 hi H I J rfl (by decide) _ _ _ rfl (A.alloc _) ⟨W.heap.size,0,none⟩ 1 1 [.slice n h.length q] rfl rfl ?c1 ?c2 ?c3 ?c4 ?c5 ?_)
    case c1=>exact cW W [.slice n h.length q] 32
    case c2=>intro x l;simp at l;subst l;rfl
    case c3=>unfold Zj;omega
    case c4=>omega
    case c5=>simp;omega
    intro v' w4 B Q ad V;go_wp2;go_roundw;exact⟨i+1,_,_,by omega,by go_num,Z<|e.right (p:=(h,.slice n h.length q)) (w2:=W.alloc<|.cells #[.slice n h.length q] 32) M C O (L.alloc K _) B Q<|by simpa using V⟩;simp[Zk];omega
  obtain rfl:i=d.length:=by omega
  have c:Ze<|o=.ok (a,b):=by rw[Ze,e.2.2.2.2.2.2,Wa];simp[cu,iK]
  go_wp2
  (try rw[Exit.noGoto_ret])
  go_ret3;exact⟨e.low.1,.inr ⟨(a,b),_,_,c,rfl,bU e.2.1<|Xn _,bU e.2.2.1<|Xn _,e.2.2.2.2.1⟩⟩
def eU{e c:TypeId}{a b t:Nat}{v:Zb}{d x:Y0}(h:w.ownsRow i e a v n d)(r:w.ownsRow j c b u t x)(q:w.grownBy W u.ownBlock)(p:e≠c):W.ownsRow i e a v n d:=by refine cN h λk hk=>q.block k (h.lt k hk).2 λg=>?_;obtain⟨C,m,l⟩:=eX h hk;obtain⟨y,z,o⟩:=eX r g.symm;exact gZ l o p rfl
def fP(w:Za)(base:Nat)(qs:YZ):Prop:=(∀q∈qs,w.ownsRow base 34 3 q.2 q.1.length<|c_ q.1)/\qs.Pairwise (λa b=>∀k,a.2.ownBlock=some k->b.2.ownBlock≠some k)
def fP.rows{a:YZ}(h:fP w n a):∀p∈a,br w w.heap.size 3 vC p.1 p.2:=λp b=>c7 (f:=vC) (λx=>rfl) (h.1 p b) qZ
def fP.base{base:Nat}{a:YZ}(h:fP w base a)(b:n<=base):fP w n a:=⟨λq c=>bU (h.1 q c) b,h.2⟩
def fP.below{base:Nat}{a:YZ}(h:fP w base a)(b:qB w W):fP W base a:=⟨λq c=>aB b<|h.1 q c,h.2⟩
def MB(w:Za)(o:aV<|List YW)(e:Zg)(w':Za):Prop:=qB w w' /\
 ((∃er,o=.error er/\e=.returned (.tuple #[qN,qI (er:Nat)])) \/
  (∃qs v,o=.ok (qs.map (·.1))/\e=.returned (.tuple #[v,qI 0])/\w'.ownsRow w.heap.size 32 1 v qs.length (df qs)/\fP w' w.heap.size qs))
def ie(acc:List YW):aV (List YW)->aV (List YW)
 |.error e=>.error e
 |.ok vs=>.ok<|acc++vs
def x8{a:Y6}{v:YW}(h:bH F I a=.ok v):ie O (aU F a<|I::N)=ie (O++[v]) (aU F a N):=by
 rw[aU,h];simp only;cases aU F a N with
 |error e=>rfl
 |ok vs=>simp[ie]
def An{a:Y6}{e:Nat}(h:bH F I a=.error e):ie O (aU F a<|I::N)=.error e:=by rw[aU,h];rfl
def CU(w wr:Za)(o:aV<|List YW)(ab:YY)(ts:Y6)(ps:YZ)(i:Nat)(v:Zb)(qs:YZ):Prop:=
 qB w wr/\wr.ownsRow w.heap.size 32 1 v qs.length (df qs)/\fP wr w.heap.size qs/\qs.length=i/\o=ie (qs.map (·.1)) (aU ab ts<|(ps.drop i).map (·.1))
def CU.next{wr w2:Za}{o:aV (List YW)}{y:Y6}{l:YZ}{v v':Zb}{n:YZ}{p:au}(h:CU w wr o F y l i v n)(J:l.drop i=p::l.drop (i+1))(H:bH F p.1 y=.ok I)(j:qB wr w2)(B:w2.ownsRow wr.heap.size 34 3 u I.length<|c_ I)
 (g:W.ownsRow w.heap.size 32 1 v' (n.length+1)<|df n++[u]) (t:w2.grownBy W v.ownBlock):CU w W o F y l (i+1) v'<|n++[(I,u)]:=by
 obtain⟨z,A,r,D,E⟩:=h;have C:=z.size;have K:=j.size;have d:=aB j A;refine⟨a_ (z.trans<|j.mono C) t (λk hk=>(A.lt k hk).1)<|by omega,by simpa[df]using g,⟨λq c=>?_,?_⟩,by simp[D],?_⟩
 .obtain c|c:=V1.1 c
  .exact eU (aB j<|r.1 q c) d t<|by decide
  simp at c;subst c;exact bU (eU B d t<|by decide) C
 .rw[WE];refine⟨r.2,by simp,λa G b e k hk x=>?_⟩;simp at e;subst e;have:=((r.1 a G).lt k hk).2;have:=(B.lt k x).1;omega
 .rw[E,J,We,x8 H];simp
def GG(X:dD)(l:YY)(t:List<|aA×Zb){b:YZ}(pv:Zb)(hm:rO w w.heap.size b z)(hp:jD w w.heap.size l t pv)(hf:∀p∈t,gR l p.1)(D:∀p∈b,ke l p.1)(hl:b.length<=1048576)(T:t.length<=1000):
 Zc prog 113 #[z,pv] w (MB w<|aU l (t.map (·.1))<|b.map (·.1)):=by
 obtain⟨ra,rc,rfl⟩:=hm.1.slice;obtain⟨i0,hi,U,V,W⟩:=V5 iN;have L:=Z hm;have HP:=Z hp;have HF:=Z hf;have C:=Z D;generalize ho:aU l (t.map (·.1)) (b.map (·.1))=o;have HO:=Z ho;go_in;go_wp2;have J:Ze<|CU w w o l (t.map (·.1)) b 0 qN []:=
  ⟨qW,VP _ _ _ _,⟨by simp,by simp⟩,rfl,by rw[<-HO];simp;cases aU l (t.map (·.1)) (b.map (·.1))<;>simp[ie]⟩
 go_loopw [6,13] (λs6 aa wr=>∃(i:Nat) (qs:YZ),i<=b.length/\aa=qI i/\Ze (CU w wr o l (t.map (·.1)) b i s6 qs)) (λ_ a _=>b.length-(Zk a).toNat)
 exact⟨0,[],qO,rfl,J⟩
 case round=>
  obtain⟨i,qs,ad,rfl,d⟩:=hrel;have n:=d.1;have O:=n.size;obtain⟨af,ah,ag,rfl⟩:=aF d.2.1;by_cases y:i<b.length
  .have R:b[i]?=some b[i]:=VE y;have HD:Ze<|b.drop i=b[i]::b.drop (i+1):=VJ y;have h:=VQ y;generalize b[i]=p at*;obtain⟨pr,Y⟩:=p;obtain⟨g,cap,he,hg,e0⟩:=(L.1.aL λk hk=>n.block k hk).c R;cases he;have ac:g<wr.heap.size:=by omega
   obtain⟨qa,qc,S⟩:∃a c,Y=.slice a pr.length c:=(L.2 _ h).slice;subst S;simp only at e0;go_wp2_with refine(Z<|vF X (HP.below n) ((L.2 _ h).below n) HF (C _ h) T).mono ?_;rintro e w2⟨(j:Ze _),Q⟩;have E:=j.size;obtain⟨M,q,rfl⟩|⟨r,u,q,rfl,hu⟩:=Q
   .have A:((M:Int) != 0)=true:=by have:=kF q;simp;omega
    have x:Ze<|o=.error M:=by rw[Ze,d.2.2.2.2,HD];exact An q
    go_wp2;go_ret2;exact⟨d.1.trans<|j.mono O,.inl ⟨M,x,rfl⟩⟩
   obtain⟨F,H,G,rfl⟩:=aF hu;have HU:=Z hu;have I:=Z q;have A:=aB j d.2.1;have N:=d.2.2.2.1;go_wp2_with (at_builtin;refine Wv _ rfl (.tmp 26) (.tmp 28) 29 rfl w.heap.size 32 i0 _ 1 24 underlying29 hi U V W rfl (by decide) _ _ _ rfl (A.alloc _) ⟨w2.heap.size,0,none⟩ 1 1 [.slice F H G] rfl rfl ?c1 ?c2 ?c3 ?c4 ?c5 ?_)
   case c1=>exact cW w2 [.slice F H G] 32
   case c2=>intro x hx;simp at hx;subst hx;rfl
   case c3=>unfold Zj;omega
   case c4=>omega
   case c5=>simp;omega
   intro v' w4 B P ab ae;have K:Ze<|CU w w4 o l (t.map (·.1)) b (i+1) v'<|qs++[(r,.slice F H G)]:=d.next (w2:=w2.alloc<|.cells #[.slice F H G] 32) HD I (j.alloc E _) (HU.alloc _) (N▸B) P;go_wp2;go_roundw;exact⟨i+1,_,by omega,by go_num,K⟩;simp[Zk];omega
  obtain rfl:i=b.length:=by omega
  have c:Ze<|o=.ok (qs.map (·.1)):=by rw[Ze,d.2.2.2.2,Wa];simp[aU,ie]
  go_wp2;go_ret2;exact⟨d.1,.inr ⟨qs,_,c,rfl,d.2.1,d.2.2.1⟩⟩
def Aj(w:Za)(ts:Y6)(e:Zg)(w':Za):Prop:=qB w w'/\∃v ps,e=.returned v/\ps.map (·.1)=ts/\jU w' w'.heap.size ps v
def Ny:(prog.info? 199).map (λi=>(i.zero,i.size,i.bytes))=some (some<|.pointer none,1,8):=by kernel_rfl
def o5(w:Za)(c:ah)(u:Zb):Prop:=∃n,u=qP n/\w.heap[n]?=some (.cells #[qI 1,qI 0,qI 0,.string ⟨#[]⟩,qT c.src,qT c.name,.pointer none,.pointer none] 269)
def o5.below{c:ah}(h:o5 w c u)(d:qB w W):o5 W c u:=by obtain⟨n,b,a⟩:=h;exact⟨n,b,bB d (lB a) a⟩
def o5.grown{c:ah}{v:Zb}{l:Y0}(h:o5 w c u)(j:w.ownsRow k 199 i v n l)(g:w.grownBy W v.ownBlock):o5 W c u:=by obtain⟨n,b,a⟩:=h;refine⟨n,b,(g.block n (lB a) λe=>?_).trans a⟩;obtain⟨C,m,d⟩:=eX j e.symm;exact gZ a d (by decide) rfl
def o5.c{c:ah}(h:o5 w c u):xW w w.heap.size (eB c.src c.name) u:=by obtain⟨n,b,a⟩:=h;exact⟨n,_,_,b,lB a,a,rfl,rfl⟩
def Vc(ps:List<|ah×Zb):Y0:=ps.map (·.2)
def J3(w wr:Za)(ab:YY)(i:Nat)(v:Zb)(ps:List<|ah×Zb):Prop:=
 qB w wr/\wr.ownsRow w.heap.size 199 1 v i (Vc ps)/\ps.map (·.1)=ab.take i/\ps.length=i/\∀p∈ps,o5 wr p.1 p.2
def BZ(b:List<|aA×Zb):b.flatMap (λp=>[p.2])=b.map (·.2):=by
 induction b with
 |nil=>rfl
 |cons a l ih=>rw[Xc,ih];rfl
def J3.end{wr:Za}{v:Zb}{a:List (ah×Zb)}(h:J3 w wr F F.length v a):∃qs:List<|aA×Zb,qs.map (·.1)=jq F/\jU wr wr.heap.size qs v:=by
 obtain⟨k,b,c,d,g⟩:=h;refine⟨a.map λp=>(eB p.1.src p.1.name,p.2),?_,?_,?_⟩
 .rw[Wj]at c;unfold jq;rw[<-c,Ww,Ww];rfl
 ·have e:(a.map λp=>(eB p.1.src p.1.name,p.2)).flatMap (λp:aA×Zb=>[p.2])=Vc a:=by
   rw[BZ,Ww];rfl
  rw[<-d]at b;refine c7 (f:=λp:aA×Zb=>[p.2]) (λx=>rfl) (base:=w.heap.size) (e:=199) ?_ qZ;rw[e,VL];exact b
 intro p i;obtain⟨q,j,rfl⟩:=VV.1 i;exact(g q j).c
def Mk(Y:n<w.heap.size)(V:w.cell? ⟨n,1,none⟩=some (.slice none 0 0))(q:br w w.heap.size 3 lS F u)(X:F.length<=1000):
 Zc prog 171 #[.pointer<|some ⟨n,0,none⟩,u] w (Aj w<|jq F):=by
 obtain⟨Q,R,rfl⟩:=q.slice;obtain⟨M,hi,A,B,C⟩:=V5 Ny;have H:=Z q;go_in;go_wp2
 go_loopw [5,19] (λN E wr=>∃(i:Nat) (D:List<|ah×Zb),i<=F.length/\E=.int .i64 i/\Ze (J3 w wr F i N D)) (λ_ a _=>F.length-(Zk a).toNat)
 exact⟨0,[],Wi _,rfl,VM _ _,VP _ _ _ _,rfl,rfl,by simp⟩
 case round=>
  obtain⟨i,D,L,rfl,e⟩:=hrel;have o:=e.1;have b:=e.2.1;obtain⟨va,vn,vc,rfl⟩:=aF b;have y:=o.size;by_cases z:i<F.length
  .have r:F[i]?=some F[i]:=VE z;have I:Ze<|F.take (i+1)=F.take i++[F[i]]:=by rw[Ze,V9,r];rfl
   generalize F[i]=c at*;obtain⟨g,cap,J,W,S,T,U⟩:=(H.aL λk hk=>o.block k hk).l r;cases J;have K:g<wr.heap.size:=by omega
   go_wp2_with (at_builtin;refine VS _ rfl (.tmp 23) (.tmp 30) 192 rfl w.heap.size 199 M _ 1 8 underlying192 hi A B C rfl (by decide) _ _ _ rfl (((b.alloc _).alloc _).alloc _) ⟨wr.heap.size+1+1,0,none⟩ 1 1 [.pointer<|some ⟨wr.heap.size+1,0,none⟩] rfl rfl ?c1 ?c2 ?c3 ?c4 ?c5 ?_)
   case c1=>
    have:=uC (wr.alloc<|.cells (lS c).toArray 271) (.cells #[.int .i64 1,.int .i64 0,.int .i64 0,.string ⟨#[]⟩,.string ⟨c.src.toArray⟩,.string ⟨c.name.toArray⟩,.pointer none,.pointer none] 269) [.pointer<|some ⟨wr.heap.size+1,0,none⟩] 199;simp only[Za.alloc,X7]at this ⊢;exact this
   case c2=>intro x d;simp at d;subst d;rfl
   case c3=>unfold Zj;omega
   case c4=>omega
   case c5=>simp;omega
   intro O P j h G;have t:Ze<|J3 w P F (i+1) O<|D++[(c,.pointer<|some ⟨wr.heap.size+1,0,none⟩)]:=by
    have d:Zd wr.heap.size wr<|((wr.alloc<|.cells #[.string ⟨c.src.toArray⟩,.string ⟨c.name.toArray⟩,.int .i64 c.type] 271).alloc<|.cells #[.int .i64 1,.int .i64 0,.int .i64 0,.string ⟨#[]⟩,.string ⟨c.src.toArray⟩,.string ⟨c.name.toArray⟩,.pointer none,.pointer none] 269).alloc<|.cells #[.pointer<|some ⟨wr.heap.size+1,0,none⟩] 199:=(((VM _ _).alloc (VR _) _).alloc (by simp) _).alloc (by simp;omega) _;refine⟨a_ (e.1.trans<|d.mono y) h (λk hk=>(b.lt k hk).1) (by simp;omega),by simpa[Vc]using j,by rw[I,Wc,e.2.2.1];rfl,by simp[e.2.2.2.1],λp l=>?_⟩;obtain l|l:=V1.1 l
    .exact((e.2.2.2.2 p l).below d).grown (aB d b) h
    simp at l;subst l;exact o5.grown ⟨_,rfl,bA (iL _ _<|by simp) _⟩ (aB d b) h
   go_wp2;go_roundw;exact⟨i+1,_,by omega,by go_num,t⟩;simp[Zk];omega
  obtain rfl:i=F.length:=by omega
  obtain⟨qs,c,(d:Ze _)⟩:=e.end;go_wp2;go_ret;exact⟨e.1,_,qs,rfl,c,d⟩
def JP{a:Addr}{m:Nat}(b:Zb)(d:n<w.heap.size)(c:w.cell? ⟨n,1,none⟩=some (.slice (some a) m k)):
 Zc prog 171 #[qP n,b] w (qE (.slice (some a) m k) w):=by
 go_in;go_wp2;go_ret;exact⟨rfl,rfl⟩
abbrev Key:=aA×Zb×Bool
def IU(k:Key):Y0:=[k.2.1,.bool k.2.2]
def Mu(w:Za)(hi:Nat)(ks:List Key)(v:Zb):Prop:=br w hi 2 IU ks v/\∀k∈ks,xW w hi k.1 k.2.1
def br.key{d:List Key}{v:Zb}(h:br w n 2 IU d v){c:Key}(b:d[i]?=some c):∃g cap,v=qL g d.length cap/\g<n /\
 w.cell? ⟨g,i*2,none⟩=some c.2.1/\w.cell? ⟨g,i*2+1,none⟩=some (.bool c.2.2):=by
 obtain⟨a,cap,rfl,j⟩:=h;obtain⟨g,rfl,k,e⟩:=j (by rintro rfl;simp at b);exact⟨g,cap,rfl,k,e i c b 0 _ rfl,e i c b 1 _ rfl⟩
def xW.ptr{v:Zb}(h:xW w k R v):∃a,v=.pointer a:=by
 cases R with
 |nil=>exact⟨none,h⟩
 |node=>obtain⟨n,_,_,b,_⟩:=h;exact⟨_,b⟩
def Tn(w wr:Za)(ks:List Key)(i:Nat)(v:Zb):Prop:=qB w wr/\wr.ownsRow w.heap.size 199 1 v i ((ks.take i).map λk=>k.2.1)
def Eo{d:List Key}(h:Mu w w.heap.size d u)(hl:d.length<=1000):
 Zc prog 172 #[u] w (Aj w<|d.map (·.1)):=by
 obtain⟨ka,kc,rfl⟩:=h.1.slice;obtain⟨O,hi,B,C,D⟩:=V5 Ny;have t:=Z h;go_in;go_wp2
 go_loopw [3,8] (λP Q wr=>∃(i:Nat),i<=d.length/\Q=qI i/\Ze (Tn w wr d i P)) (λ_ a _=>d.length-(Zk a).toNat)
 exact⟨0,qO,rfl,qW,VP _ _ _ _⟩
 case round=>
  obtain⟨i,N,rfl,n⟩:=hrel;have l:=n.1;have b:=n.2;obtain⟨S,U,T,rfl⟩:=aF b;have y:=l.size;by_cases o:i<d.length
  .have q:d[i]?=some d[i]:=VE o;have H:Ze<|d.take (i+1)=d.take i++[d[i]]:=by rw[Ze,V9,q];rfl
   have p:=VQ o;generalize d[i]=c at*;obtain⟨X,I,W⟩:=c;obtain⟨G,A⟩:∃a,I=.pointer a:=(t.2 _ p).ptr;subst A;obtain⟨g,cap,L,Y,J,K⟩:=(t.1.aL λk h=>l.block k h).key q;cases L;have M:g<wr.heap.size:=by omega
   simp only at J K;go_wp2_with (at_builtin;refine VS _ rfl (.tmp 12) (.tmp 15) 192 rfl w.heap.size 199 O _ 1 8 underlying192 hi B C D rfl (by decide) _ _ _ rfl ((b.alloc _).alloc _) ⟨wr.heap.size+1,0,none⟩ 1 1 [.pointer G] rfl rfl ?c1 ?c2 ?c3 ?c4 ?c5 ?_)
   case c1=>exact uC wr _ [.pointer G] 199
   case c2=>intro x F;simp at F;subst F;rfl
   case c3=>unfold Zj;omega
   case c4=>omega
   case c5=>simp;omega
   intro R V j z E;have r:Ze<|Tn w V d (i+1) R:=by refine⟨a_ ((n.1.alloc n.1.size _).alloc (by simp;omega) _) z (λk h=>(b.lt k h).1) (by simp;omega),?_⟩;rw[H,Wc];rw[XR];exact j
   go_wp2;go_roundw;exact⟨i+1,by omega,by go_num,r⟩;simp[Zk];omega
  obtain rfl:i=d.length:=by omega
  rw[Wj]at b;have c:Ze<|jU wr wr.heap.size (d.map λk=>(k.1,k.2.1))<|.slice S U T:=by
   refine⟨c7 (f:=λp:aA×Zb=>[p.2]) (λx=>rfl) (base:=w.heap.size) (e:=199) ?_ qZ,λp q=>?_⟩
   .rw[BZ,Ww,VL];exact b
   obtain⟨k,h,rfl⟩:=VV.1 q;exact((t.2 k h).aL λj g=>l.block j g).more y
  go_wp2;go_ret;exact⟨n.1,_,_,rfl,by rw[Ww];rfl,c⟩
def Dn(w:Za)(e:TypeId)(a:Nat):(w.alloc<|.cells #[] e).ownsRow w.heap.size e a (qL w.heap.size 0 0) 0 []:=
 ⟨by simp,.inr ⟨w.heap.size,0,#[],rfl,qZ,aM _ _,qZ,by unfold Zj;omega,by simp,by simp⟩⟩
def AA(d:Y0)(g:Addr)(c:Nat)(w:Za)(F:∀j u,d[j]?=some u->w.cell? (g.add j)=some u)(l:d≠[]->g.block<w.heap.size)(D:∀u∈d,u.oneCell'=true)(J:d.length<=1048576):
 Zc prog 167 #[.slice (some g) d.length c] w λe y=>qB w y/\∃v,e=.returned v/\y.ownsRow w.heap.size 32 1 v d.length d:=by
 obtain⟨H,hi,p,q,r⟩:=V5 iN;have A:Ze (∀j u,d[j]?=some u->(w.alloc<|.cells #[] 32).cell? (g.add j)=some u):=λj u t=>by
  have E:=l (by rintro rfl;simp at t);have e:(g.add j).block=g.block:=by unfold Addr.add;split<;>rfl
  have:=F j u t;generalize g.add j=C at*;obtain⟨b,o,f⟩:=C;simp only at e;subst e;unfold Za.cell? at this ⊢;simp only at this ⊢;rw[V2 _ _ _ E];exact this
 have z:=Z D;have G:=λ(w:Za) (a:Y8) (n c:Nat)=>XY (P:=prog) w 29 _ a n c 0 0 underlying29;go_in;go_wp2_with (at_builtin;refine VS _ rfl (.tmp 5) (.tmp 6) 29 rfl w.heap.size 32 H _ 1 24 underlying29 hi p q r rfl (by decide) _ _ _ rfl (Dn w 32 1) g d.length c d rfl ?c0 ?c1 ?c2 ?c3 ?c4 ?c5 ?_)
 case c0=>simp
 case c1=>exact A
 case c2=>exact z
 case c3=>unfold Zj;omega
 case c4=>omega
 case c5=>simp
 intro K I h i x;have HB:Ze<|qB w I:=a_ qA i (λk hk=>by simp[Zb.ownBlock]at hk;omega) (by simp);have B:=Z h;go_wp2;go_ret;refine⟨HB,_,rfl,?_⟩;have:=B.o;simpa using this
def C1(w:Za):Zc prog 167 #[qN] w<|qE qN w:=by have b:=λ(w:Za) (a:Y8) (n c:Nat)=>XY (P:=prog) w 29 _ a n c 0 0 underlying29;go_in;go_wp2;go_ret;exact⟨rfl,rfl⟩
def part(qs:YZ)(off lim:Nat):YZ:=(qs.drop off).take lim
def QR{k:YZ}(z:Nat){v:Zb}(b d:Nat)(A:w.ownsRow z 32 1 v k.length<|df k)(N:∀q∈k,∃a m c,q.2=.slice a m c)(Q:k.length<=1048576):
 Zc prog 115 #[v,qI b,qI d] w λe i=>qB w i/\∃u,e=.returned u/\i.ownsRow w.heap.size 32 1 u (part k b d).length (df<|part k b d):=by
 obtain⟨rfl,M⟩|⟨g,cap,J,rfl,G,H,P,R,hs,O⟩:=A.2
 .obtain rfl:k=[]:=V3.1 M;have y:Ze<|part [] b d=[]:=by unfold Ze part;simp
  have t:Ze (∀i,qB w i->qB w i/\∃u,Zg.returned qN=.returned u/\i.ownsRow w.heap.size 32 1 u (part [] b d).length (df<|part [] b d)):=λi G=>by rw[y];exact⟨G,_,rfl,VP _ _ _ _⟩
  generalize n:(λ(e:Zg) (i:Za)=>qB w i/\∃u,e=.returned u/\i.ownsRow w.heap.size 32 1 u (part [] b d).length (df<|part [] b d))=o;have l:Ze (∀e i,(qB w i/\∃u,e=.returned u/\i.ownsRow w.heap.size 32 1 u (part [] b d).length (df<|part [] b d))->o e i):=λe i h=>by rw[<-n];exact h
  have j:∀x:Nat,x=0\/0<x:=λx=>by omega
  obtain rfl|r:=j b<;>obtain rfl|p:=j d;all_goals
   go_in;go_wp2_with apply qS (U<|Z<|C1 w);go_wp2;exact l _ _<|t _ qW
 .have E:=lB H;have o:Ze<|(part k b d).length=min d (k.length-b):=by unfold Ze part;simp
  have t:Ze (∀L B c,L=(part k b d).length->(L≠0->B=⟨g,b,none⟩)->Zc prog 167 #[.slice (some B) L c] w λe i=>qB w i/\∃u,e=.returned u/\i.ownsRow w.heap.size 32 1 u (part k b d).length (df<|part k b d)):=by
   intro L B c D x;have n:(df<|part k b d).length=(part k b d).length:=by simp[df]
   have:=AA (df<|part k b d) B c w ?_ ?_ ?_ (by rw[n,o];omega)
   .rw[n,<-D]at this;rw[<-D];exact this
   ·intro j u r;have F:=bw r;rw[n]at F;rw[x<|by omega];have C:(df k)[b+j]?=some u:=by
     unfold df part at r;rw[VO,V6,Xa]at r;unfold df;rw[VO];split at r
     .exact r
     cases r
    rw[<-O,V6]at C;have K:(⟨g,b,none⟩:Addr).add j=⟨g,b+j,none⟩:=by unfold Addr.add;split<;>simp_all
    rw[K,bC H];split at C
    .simpa using C
    cases C
   .intro j;rw[x (by rw[D,<-n];intro h;exact j<|V3.1 h)];exact E
   intro u j;unfold df part at j;obtain⟨q,r,rfl⟩:=VV.1 j;obtain⟨a,m,c,h⟩:=N q<|WI<|Wr r;rw[h];rfl
  generalize p:(λ(e:Zg) (i:Za)=>qB w i/\∃u,e=.returned u/\i.ownsRow w.heap.size 32 1 u (part k b d).length (df<|part k b d))=y at*;have l:Ze (∀e i,y e i->∃a m c,e=.returned (.slice a m c)):=λe i h=>by rw[<-p]at h;obtain⟨_,u,rfl,j⟩:=h;obtain⟨a,m,c,rfl⟩:=aF j;exact⟨a,m,c,rfl⟩
  by_cases I:b<k.length
  ·by_cases n:d<k.length-b;all_goals
    go_in;go_wp2_with fail
   all_goals
    refine(U t _ _ _ (by rw[o.o];omega) (by intro h;first|rfl|(exfalso;omega)|(congr 1;omega))).mono ?_;intro e x r;obtain⟨a,m,c,rfl⟩:=l.o _ _ r;have j:=Z r;go_wp2;exact j
  have n:∀x:Nat,x=0\/0<x:=λx=>by omega
  obtain rfl|r:=n d;all_goals
   go_in;go_wp2_with fail
  all_goals
   refine(U t _ _ _ (by rw[o.o];omega) (by intro h;first|rfl|(exfalso;omega)|(congr 1;omega))).mono ?_;intro e D C;obtain⟨a,m,c,rfl⟩:=l.o _ _ C;have j:=Z C;go_wp2;exact j
def t_  : -1<=Lib.compareInt a M/\Lib.compareInt a M<=1:=by
 unfold Lib.compareInt;split
 .decide
 split<;>decide
def tZ:∀(a b:YX),-1<=Lib.compareBytes a b/\Lib.compareBytes a b<=1
 |[],[]=>by simp[Lib.compareBytes]
 |[],_::_=>by simp[Lib.compareBytes]
 |_::_,[]=>by simp[Lib.compareBytes]
 |a::a',b::b'=>by
  unfold Lib.compareBytes;have:=tZ a' b';split
  .decide
  split
  .decide
  exact this
def Bt(a b:ai): -1<=dz a b/\dz a b<=1:=by
 unfold dz;split
 .exact t_
 split
 .exact tZ _ _
 exact t_
def r_{a:List Bool}{x y:ai}(d:I.drop i=x::I.drop (i+1))(e:J.drop i=y::J.drop (i+1))(c:a.drop i=b::a.drop (i+1)):
 cq (I.drop i) (J.drop i) (a.drop i)=if dz x y=0 then cq (I.drop<|i+1) (J.drop<|i+1) (a.drop<|i+1)else if b=true then-dz x y else dz x y:=by
 rw[d,e,c,cq]
def Cg(X:dD){b:List Key}(g:br w w.heap.size 3 vC I u)(h:br w w.heap.size 3 vC J z)(o:br w w.heap.size 2 IU b A)(d:∀k∈b,∃p,k.2.1=.pointer p)(a:I.length=b.length)(c:J.length=b.length)(hl:b.length<=1000):
 Zc prog 176 #[u,z,A] w (qF (qI<|cq I J<|b.map λk=>k.2.2) w):=by
 obtain⟨ae,af,rfl⟩:=g.slice;obtain⟨ba,bc,rfl⟩:=h.slice;obtain⟨ka,kc,rfl⟩:=o.slice;have HA:=Z g;have HB:=Z h;have HK:=Z o;have L:=Z d;have C:=Z a;have F:=Z c;generalize i:cq I J (b.map λk=>k.2.2)=out;have HO:=Z i;clear g h o d i a c;go_in;go_wp2
 go_loopw [12] (λS wr=>∃i:Nat,i<=b.length/\S=qI i/\Ze (qB w wr)/\Ze (out=cq (I.drop i) (J.drop i) ((b.map λk=>k.2.2).drop i))) (λI _=>b.length-(Zk I).toNat)
 exact⟨0,qO,rfl,qW,HO.symm⟩
 case round=>
  obtain⟨i,hi,rfl,d,j⟩:=hrel;have q:=d.size;by_cases B:i<b.length
  .have r:i<I.length:=by have:=C.o;omega
   have t:i<J.length:=by have:=F.o;omega
   have P:b[i]?=some b[i]:=VE B;have D:=VQ B;have K:Ze<|(b.map λk=>k.2.2).drop i=b[i].2.2::(b.map λk=>k.2.2).drop (i+1):=by unfold Ze;rw[VJ<|by simpa using B];simp
   have G:Ze<|I.drop i=I.getD i aE::I.drop (i+1):=by unfold Ze;rw[VJ r];simp[List.getD,VE r]
   have H:Ze<|J.drop i=J.getD i aE::J.drop (i+1):=by unfold Ze;rw[VJ t];simp[List.getD,VE t]
   generalize b[i]=k at*;obtain⟨kt,kp,kd⟩:=k;obtain⟨pa,Q⟩:∃p,kp=.pointer p:=L.o _ D;subst Q;obtain⟨g1,c1,M,aa,x0,x1,x2⟩:=(HA.aL λk o=>d.block k o).val r;cases M;obtain⟨g2,c2,N,ab,y0,y1,y2⟩:=(HB.aL λk o=>d.block k o).val t;cases N;obtain⟨g3,c3,O,ac,z0,z1⟩:=(HK.aL λk o=>d.block k o).key P;cases O;simp only at z0 z1;have⟨T,U,V⟩:g1<wr.heap.size/\g2<wr.heap.size/\g3<wr.heap.size:=by omega
   have a:=Z<|r_ G.o H K;have⟨W,Y⟩:(i:Int)<(I.length:Int)/\(i:Int)<(J.length:Int):=by omega
   generalize I.getD i aE=x at*;generalize J.getD i aE=y at*;have g:=Z<|(Z<|Oa X) x y;have R:=Bt x y;obtain⟨c,hc⟩:∃c,dz x y=c:=⟨_,rfl⟩;rw[hc]at g a R;unfold vV at g;by_cases n:c=0
   ·subst n;have l:Ze<|out=cq (I.drop<|i+1) (J.drop<|i+1) ((b.map λk=>k.2.2).drop<|i+1):=by
     rw[Ze,j,a,VG rfl]
    go_wp2_with fail
    go_region_with (go_at_call 230;apply(g _).mono;rintro e w9⟨rfl,h⟩;obtain⟨c9,f9⟩:=dN h;have E:=Z h;have q9:wr.heap.size<w9.heap.size:=(by have:=h.size;(try simp[Za.drew]at this);omega);clear h)
    all_goals
     go_wp2;go_roundw;exact⟨i+1,by omega,by go_num,((d.alloc q _).drew).trans<|E.mono (by simp[Za.drew];omega),l⟩
     case measure=>simp[Zk];omega
   have ad:(c != 0)=true:=by simpa using n
   cases kd with
   |true=>
    have E:Ze<|out=-c:=by rw[Ze,j,a,VF n,VG rfl]
    have hw:wrap64 (-c)=-c:=by unfold wrap64;omega
    go_wp2_with fail
    go_region_with (go_at_call 230;apply(g _).mono;rintro e w9⟨rfl,h⟩;obtain⟨c9,f9⟩:=dN h;have l:=Z h;have q9:wr.heap.size<w9.heap.size:=(by have:=h.size;(try simp[Za.drew]at this);omega);clear h)
    all_goals
     go_wp2;go_ret;exact⟨fQ E.symm,((d.alloc q _).drew).trans<|l.mono (by simp[Za.drew];omega)⟩
   |false=>
    have HE:Ze<|out=c:=by rw[Ze,j,a,VF n,VF λh=>by cases h]
    go_wp2_with fail
    go_region_with (go_at_call 230;apply(g _).mono;rintro e w9⟨rfl,l⟩;obtain⟨c9,f9⟩:=dN l;have E:=Z l;have q9:wr.heap.size<w9.heap.size:=(by have:=l.size;(try simp[Za.drew]at this);omega);clear l)
    all_goals
     go_wp2;go_ret;exact⟨fQ HE.symm,((d.alloc q _).drew).trans<|E.mono (by simp[Za.drew];omega)⟩
  obtain rfl:i=b.length:=by omega
  have a:Ze<|out=0:=by unfold Ze;rw[j,Wo (by have:=C.o;omega)];rfl
  go_wp2;go_ret;exact⟨fQ a.symm,d⟩
structure Rk where
 b:YW
 a:Zb
 row:Zb
def Th(x:Rk):Y0:=[x.a,x.row]
def oL(xs:List Rk):Y0:=xs.flatMap Th
def Ou(b:List Rk):(oL b).length=b.length*2:=by
 induction b with
 |nil=>rfl
 |cons a l ih=>show(Th a++oL l).length=_;rw[VH,ih];simp[Th];omega
def BE(a b:List Rk):oL (a++b)=oL a++oL b:=by simp[oL]
def oW{a:List Rk}{x:Rk}(h:a[i]?=some x):(oL a)[i*2]?=some x.a/\(oL a)[i*2+1]?=some x.row:=
 ⟨nz Th 2 (λ_=>rfl) a i 0 x x.a h rfl,nz Th 2 (λ_=>rfl) a i 1 x x.row h rfl⟩
def Ov(a:List Rk)(x:Rk)(g:i<a.length):((oL a).set (i*2) x.a).set (i*2+1) x.row=oL (a.set i x):=by
 have e:a=a.take i++a[i]::a.drop (i+1):=by rw[<-VJ g,WA]
 have c:(a.take i).length=i:=by simp;omega
 generalize a.take i=A at*;generalize a.drop (i+1)=B at*;generalize a[i]=y at*;subst e;have b:∀z:Rk,oL (A++z::B)=oL A++(Th z++oL B):=λz=>by rw[BE];show oL A++oL ([z]++B)=_;rw[BE];simp[oL]
 rw[show(A++y::B).set i x=A++x::B by rw[Ws _ _<|by omega,c];simp];rw[b,b];have d:(oL A).length=i*2:=by rw[Ou,c]
 rw[Ws _ _<|by omega,Ws _ _<|by omega,d];rw[show i*2-i*2=0 by omega,show i*2+1-i*2=1 by omega];rfl
structure zH(w:Za)(base:Nat)(v:Zb)(xs:List Rk):Prop where
 own:w.ownsRow base 288 2 v xs.length<|oL xs
 each:∀x∈xs,w.ownsRow base 34 3 x.a x.b.length (c_ x.b)/\∃a m c,x.row=.slice a m c
def zH.below{base:Nat}{v:Zb}{c:List Rk}(h:zH w base v c)(a:qB w W):zH W base v c:=⟨aB a h.own,λx b=>⟨aB a (h.each x b).1,(h.each x b).2⟩⟩
def zH.d{a:Nat}{x:List Rk}(h:zH w i (qL j n a) x){e:Y0}(d:w.ownsRow i 34 3 u k e)(p q:Nat)(r t:Zb):((w.setCell ⟨j,p,none⟩ r).setCell ⟨j,q,none⟩ t).ownsRow i 34 3 u k e:=by have o:(qL j n a).ownBlock=some j:=rfl;obtain⟨C,m,l⟩:=eX h.own o;refine cN d λb g=>?_;obtain⟨y,z,c⟩:=eX d g;have:b≠j:=gZ c l (by decide);rw[VN _ _ _ _ this,VN _ _ _ _ this]
def zH.set{g e:Nat}{o:List Rk}{i:Nat}{x:Rk}(h:zH w j (qL g n e) o)(F:i<o.length)(A:w.ownsRow j 34 3 x.a x.b.length (c_ x.b)/\∃a m c,x.row=.slice a m c):
 zH ((w.setCell ⟨g,i*2,none⟩ x.a).setCell ⟨g,i*2+1,none⟩ x.row) j (qL g n e) (o.set i x):=by
 have q:(qL g n e).ownBlock=some g:=rfl;obtain⟨C,m,E⟩:=eX h.own q
 have d:∀ {u:Zb} {k:Nat} {r:Y0},w.ownsRow j 34 3 u k r->((w.setCell ⟨g,i*2,none⟩ x.a).setCell ⟨g,i*2+1,none⟩ x.row).ownsRow j 34 3 u k r:=λ{u k r} z=>cN z (λb D=>by
  obtain⟨G,H,p⟩:=eX z D;have:b≠g:=gZ p E<|by decide
  rw[VN _ _ _ _ this,VN _ _ _ _ this])
 refine⟨?_,λy l=>?_⟩
 .have B:=Aa h.own q (i:=i*2) (by omega) x.a;have t:=Aa B q (i:=i*2+1) (by omega) x.row;rw[Ov o x F]at t;simpa using t
 .obtain l|rfl:=Xl l
  .exact⟨d (h.each y l).1,(h.each y l).2⟩
  exact⟨d A.1,A.2⟩
def lr(ob:Nat):Zb:=.func (.func 175) #[] #[.pointer<|some ⟨ob,0,none⟩]
structure vQ(w:Za)(ob:Nat)(ks:List Key):Prop where
 box:∃kv,w.heap[ob]?=some (.cells #[kv] 227)/\br w ob 2 IU ks kv
 ptr:∀k∈ks,∃p,k.2.1=.pointer p
 len:ks.length<=1000
def vQ.aL{w':Za}{b:List Key}(h:vQ w n b)(a:∀k,k<=n->w'.heap[k]?=w.heap[k]?):vQ w' n b:=by obtain⟨⟨j,c,d⟩,e,g⟩:=h;exact⟨⟨j,(a n qZ).trans c,d.aL λk i=>a k<|by omega⟩,e,g⟩
def pG(ks:List Key):List Bool:=ks.map λk=>k.2.2
def MY(X:dD)(x y:Rk)(b:Nat){i:List Key}(k:vQ w n i)(l:w.ownsRow b 34 3 x.a x.b.length (c_ x.b)/\∃a m c,x.row=.slice a m c)(p:w.ownsRow b 34 3 y.a y.b.length (c_ y.b)/\∃a m c,y.row=.slice a m c)(o:x.b.length=i.length)(q:y.b.length=i.length):
 Zc prog 175 #[.agg #[x.a,x.row],.agg #[y.a,y.row],qP n] w (qF (qI<|cq x.b y.b<|pG i) w):=by
 obtain⟨C,t,hk⟩:=k.box;obtain⟨J,L,K,g⟩:=aF l.1;obtain⟨M,O,N,h⟩:=aF p.1;obtain⟨D,F,E,d⟩:=l.2;obtain⟨G,sm,H,e⟩:=p.2;obtain⟨A,B,rfl⟩:=hk.slice;have u:=lB t;have z:=bC t;have hB:qB w<|(w.alloc<|.cells #[x.a,x.row] 288).alloc<|.cells #[y.a,y.row] 288:=(qA).alloc (by simp) _;have r:=Z<|Cg X ((c7 (f:=vC) (λ_=>rfl) l.1 qZ).below hB) ((c7 (f:=vC) (λ_=>rfl) p.1 qZ).below hB) ((hk.more<|by omega).below hB) k.ptr o q k.len;have HB:=Z hB;rw[g,h,d,e]at r HB;rw[g,h,d,e];unfold pG;go_in;go_wp2_with fail;apply qR r;intro I j;go_wp2;go_ret;exact⟨rfl,Z<|HB.trans<|j.mono HB.size⟩
def j6(ks:List Key)(x y:Rk):Bool:=decide<|lQ (pG ks) x.b y.b<=0
def qu(d:List Key):jC<|j6 d:=by have h:=(nd<|pG d).ord;exact⟨λa b=>h.total a.b b.b,λa b c=>h.trans a.b b.b c.b⟩
def E3(ks:List Key)(k9:List Int)(x:Rk):Prop:=x.b.length=ks.length/\hZ k9 x.b
def MZ{a:List Key}{b:List Int}(c:b.length=a.length){x y:Rk}(d:E3 a b x)(e:E3 a b y):(cq x.b y.b (pG a)<0)↔j6 a y x=false:=by rw[mO b (pG a) x.b y.b (by simp[pG,c]) d.2 e.2];have h:=(nd<|pG a).e x.b y.b;unfold j6;rw[decide_eq_false_iff_not];omega
structure EY(w wr:Za)(ks:List Key)(k9:List Int)(ob base g cap n:Nat)(A S R:List Rk)(x:Rk)(j:Nat)(p q:List Rk):Prop where
 P:zH wr base (qL g n cap)<|A++(p++x::(q++R))
 cmp:vQ wr ob ks
 aL:aH g w wr
 len:A.length+p.length=j
 all:(A++(p++x::(q++R))).length=n
 a:p++q=S
 b:∀y∈q,j6 ks y x=false
 ok:∀y∈A++(p++x::(q++R)),E3 ks k9 y
def EY.stop{wr:Za}{c:List Key}{r:List Int}{g d:Nat}{A S R:List Rk}{x:Rk}{p q:List Rk}(h:EY w wr c r k i g d n A S R x j p q)(l:S.Pairwise λa b=>j6 c a b=true)(o:p=[]\/∃y t,p=t++[y]/\j6 c y x=true):zH wr i (qL g n d)<|A++(eS (j6 c) S [x]++R):=by
 have e:eS (j6 c) S [x]=p++x::q:=by rw[<-h.a]at l ⊢;exact yZ (qu c) l o h.b
 rw[e];have:=h.P;simpa using this
def EY.swap{wr:Za}{c:List Key}{l:List Int}{g b:Nat}{A S R:List Rk}{x y:Rk}{p q:List Rk}(h:EY w wr c l k i g b n A S R x (j+1) (p++[y]) q)(B:j6 c y x=false)(d:zH W i (qL g n b)<|((A++((p++[y])++x::(q++R))).set (j+1) y).set j x)(r:vQ W k c)(t:aH g w W):EY w W c l k i g b n A S R x j p<|y::q:=by
 have u:A.length+p.length=j:=by have:=h.len;simp at this;omega
 have e:((A++((p++[y])++x::(q++R))).set (j+1) y).set j x=A++(p++x::(y::q++R)):=by
  have o:A++((p++[y])++x::(q++R))=(A++p)++y::x::(q++R):=by simp
  have a:(A++p).length=j:=by simp;omega
  rw[o,Ws _ _<|by omega,a,show j+1-j=1 by omega];rw[Ws _ _<|by omega,a,show j-j=0 by omega];simp
 rw[e]at d;refine⟨d,r,t,u,?_,?_,?_,?_⟩
 .have:=h.all;simp at this ⊢;omega
 .have:=h.a;simpa using this
 .intro z a;obtain rfl|a:=V8.1 a
  .exact B
  exact h.b z a
 intro z a;apply h.ok z;simp at a ⊢;obtain a|a|a|a|a|a:=a<;>simp[a]
structure dx(w:Za) where
 val:Za
 d:qB w val
abbrev dx.first(w:Za):Inhabited<|dx w:=⟨⟨w,qW⟩⟩
def eV{P:Program}{id:Nat}{Q:Exit->Act->Za->Prop}{a:Act}{l:List Oper}(e:P.follows .mixedOrders=true)(d:Region.lexB .any l.toArray=true)
 (h:wpQuiet P l.toArray (λb=>∃p:dx w,b=p.val) (λc=>∀b,(∃p:dx w,b=p.val)->Q .normal c b) l a):(Code.region id l.toArray true).wp P Q a w:=
 wp_region_quiet (C:=λb=>∃p:dx w,b=p.val) e d ⟨⟨w.drew,qW.drew⟩,rfl⟩ (by simpa using h)
def dx.cell{v:Zb}(a:n<w.heap.size)(h:w.cell? ⟨n,k,none⟩=some v)(p:dx w):p.val.cell? ⟨n,k,none⟩=some v:=(VK<|p.d.block n a).trans h
def og(ks:List Key)(xs:List Rk)(a i:Nat):List Rk:=xs.take a++(bL (j6 ks) ((xs.drop a).take<|i-a)++xs.drop i)
def sH(c:List Key)(b:List Rk)(a:Nat):og c b a (a+1)=b/\og c b a a=b:=by
 unfold og;constructor
 .rw[show a+1-a=1 by omega];cases h:b.drop a with
  |nil=>
   have:b.drop (a+1)=[]:=by rw[<-Xu,h];rfl
   rw[this];have e:=WA a b;rw[h]at e;simpa[bL]using e
  |cons y l=>
   have:b.drop (a+1)=l:=by rw[<-Xu,h];rfl
   rw[this];have e:=WA a b;rw[h]at e;simpa[bL,fw]using e
 simp[bL]
def IJ{ks:List Key}{a:List Rk}{x:Rk}(c:n<i)(b:a[i]?=some x):og ks a n (i+1)=a.take n++(eS (j6 ks) (bL (j6 ks)<|(a.drop n).take<|i-n) [x]++a.drop (i+1)):=by
 unfold og;have e:(a.drop n).take (i+1-n)=(a.drop n).take (i-n)++[x]:=by rw[show i+1-n=(i-n)+1 by omega,V9,Xa,show n+(i-n)=i by omega,b];rfl
 rw[e,kX<|qu ks];rfl
def TY(X:dD){t:List Key}(k9:List Int)(aK:k9.length=t.length){ob r g B a b:Nat}{d:List Rk}(aS:a<=b)(aU:b<=n)(aN:d.length=n)(hn:n<=1048576)(hW:zH w r (.slice (some ⟨g,0,none⟩) n B) d)(hC:vQ w ob t)(a0:ob<g)(aJ:∀x∈d,E3 t k9 x):
 Zc prog 258 #[.slice (some ⟨g,0,none⟩) n B,.int .i64 a,.int .i64 b,lr ob] w λe w'=>e=.returned (.tuple #[])/\zH w' r (.slice (some ⟨g,0,none⟩) n B) (og t d a b)/\aH g w w':=by
 have HW:=Z hW;have HC:=Z hC;have ax:=Z aJ;have ah:=Z aN;have a1:wrap64 ((a:Int)+1)=a+1:=by unfold wrap64;omega
 unfold lr;have aO:∀(a:Y_) (w:Za),(callFunc 175 a).run prog w=.ok (.enter 175 a) w:=λa w=>by go_simp
 go_in;go_wp2
 go_loopw [8] (λs8 wr=>∃i:Nat,s8=.int .i64 i/\a<i/\i<=n+1/\(i<=b\/i=a+1)/\Ze (zH wr r (.slice (some ⟨g,0,none⟩) n B) (og t d a i)/\aH g w wr)) (λs _=>n+1-(Zk s).toNat)
 exact⟨a+1,by go_num,by omega,by omega,.inr rfl,by rw[(sH t d a).1];exact HW,aH.refl _ _⟩
 case round=>
  obtain⟨i,rfl,aC,aV,aE,HI⟩:=hrel;by_cases aZ:i<b
  .have al:i<d.length:=by have:=ah.o;omega
   have ao:d[i]?=some d[i]:=VE al;have aM:d.drop i=d[i]::d.drop (i+1):=VJ al;have aa:=Z<|IJ (ks:=t) aC ao;generalize d[i]=x at*;have aj:(bL (j6 t)<|(d.drop a).take<|i-a).length=i-a:=by rw[iq];simp;omega
   have aA:∀y∈bL (j6 t) ((d.drop a).take<|i-a),y∈d:=λy K=>WI<|Wr<|iO K;have ai:(d.take a).length=a:=by simp;omega
   have az:EY w wr t k9 ob r g B n (d.take a) (bL (j6 t)<|(d.drop a).take<|i-a) (d.drop<|i+1) x i (bL (j6 t)<|(d.drop a).take<|i-a) []:=by
    have c:=HI.1;unfold og at c;rw[aM]at c;refine⟨by simpa using c,HC.aL λk hk=>HI.2.block k (by have:=HC.box;obtain⟨l,h,_⟩:=this;have:=lB h;omega)<|by omega,HI.2,by rw[ai,aj];omega,?_,by simp,by simp,λy K=>ax y ?_⟩
    .have:=ah.o;simp only[VH,Wk,ai,aj,Wp];simp;omega
    obtain K|K:=V1.1 K
    .exact Wr K
    obtain K|K:=V1.1 K
    .exact aA y K
    obtain rfl|K:=V8.1 K
    .exact Wn.2 ⟨i,ao⟩
    exact WI<|by simpa using K
   have av:=Z az;have af:=Z<|jO (qu t)<|(d.drop a).take<|i-a;generalize bL (j6 t) ((d.drop a).take<|i-a)=S at*;have E:Ze<|og t d a (i+1)=d.take a++(eS (j6 t) S [x]++d.drop (i+1)):=aa.o;generalize aQ:d.take a=A at*;generalize aR:d.drop (i+1)=R at*;obtain⟨wo,rfl⟩:∃wo:Za,wo=wr:=⟨_,rfl⟩;go_wp2
   go_loopw [9] (λs9 wr=>∃(j:Nat) (p q:List Rk),s9=.int .i64 j/\a<=j/\j<=i/\Ze (EY w wr t k9 ob r g B n A S R x j p q)) (λs _=>(Zk s).toNat)
   exact⟨i,_,_,rfl,by omega,VR _,av⟩;obtain⟨j,p,q,rfl,aT,aY,HJ⟩:=hrel;by_cases aX:a<j
   ·obtain ⟨m,rfl⟩:∃m,j=m+1:=⟨j-1,by omega⟩;obtain⟨y,l,rfl⟩:∃y l,p=l++[y]:=by
     have ae:=HJ.len;obtain h|⟨l,y,h⟩:=YD p
     .subst h;simp at ae;omega
     exact⟨y,l,by rw[h];simp⟩
    obtain⟨J,ab,ad,am,F,an,aD,o⟩:=HJ.o;have ae:A.length+l.length=m:=by simp at am;omega
    have ac:(A++(l++[y]++x::(q++R)))[m]?=some y:=by
     have h:A++((l++[y])++x::(q++R))=(A++l)++y::x::(q++R):=by simp
     rw[h,VW (by simp;omega)];simp[ae]
    have H:(A++(l++[y]++x::(q++R)))[m+1]?=some x:=by
     have h:A++((l++[y])++x::(q++R))=(A++l)++y::x::(q++R):=by simp
     rw[h,VW (by simp;omega)];simp[show m+1-(A.length+l.length)=1 by omega]
    have Q:y∈A++(l++[y]++x::(q++R)):=Wn.2 ⟨m,ac⟩;have P:x∈A++(l++[y]++x::(q++R)):=Wn.2 ⟨m+1,H⟩;obtain⟨M,I,G⟩:∃M,wr.heap[g]?=some (.cells M 288 (0,0))/\∀k u,(oL<|A++(l++[y]++x::(q++R)))[k]?=some u->M[k]?=some u:=by
     obtain⟨h,_⟩|⟨g',z,M,hv,_,W,_,_,_,ht⟩:=J.own.2
     .cases h
     injection hv with e;cases e;refine⟨M,W,λk u hk=>?_⟩;rw[<-ht,V6]at hk;split at hk
     .simpa using hk
     cases hk
    have O:=lB I;have y0:wr.cell? ⟨g,m*2,none⟩=some y.a:=(bC I _).trans<|G _ _ (oW ac).1;have y1:wr.cell? ⟨g,m*2+1,none⟩=some y.row:=(bC I _).trans<|G _ _ (oW ac).2;have x0:wr.cell? ⟨g,(m+1)*2,none⟩=some x.a:=(bC I _).trans<|G _ _ (oW H).1;have x1:wr.cell? ⟨g,(m+1)*2+1,none⟩=some x.row:=(bC I _).trans<|G _ _ (oW H).2;have C:=J.each x P;have D:=J.each y Q;have aW:((a:Nat):Int)<((m:Nat):Int)+1:=by omega
    have aP:((a:Nat):Int)<(((m+1:Nat)):Int):=by omega
    have N:=MZ aK (o x P)<|o y Q;have aI:m+1<n:=by rw[<-F];exact bw H
    obtain⟨xa,xn,xc,T⟩:=aF C.1;obtain⟨ya,yn,yc,V⟩:=aF D.1;obtain⟨a6,a8,a7,U⟩:=C.2;obtain⟨a9,ba,a_,Y⟩:=D.2;have iB:Inhabited<|dx wr:=dx.first wr;have L:Ze (∀p:dx wr,Zc prog 175 #[.agg #[x.a,x.row],.agg #[y.a,y.row],.pointer<|some ⟨ob,0,none⟩] p.val λe w'=>e=.returned (.int .i64<|cq x.b y.b<|pG t)/\∃l:dx wr,w'=l.val):=λp=>
     (MY X x y r (ab.aL λk hk=>p.d.block k<|by omega) ⟨aB p.d C.1,C.2⟩ ⟨aB p.d D.1,D.2⟩ (o x P).1 (o y Q).1).mono (λe w' ⟨z,h⟩=>⟨z,⟨w',p.d.trans<|h.mono p.d.size⟩,rfl⟩)
    have ar:=λp=>dx.cell O y0 p;have au:=λp=>dx.cell O y1 p;have ap:=λp=>dx.cell O x0 p;have aq:=λp=>dx.cell O x1 p;rw[T,U,V,Y]at L;rw[T]at ap;rw[U]at aq;rw[V]at ar;rw[Y]at au;rw[T]at x0;rw[U]at x1;rw[V]at y0;rw[Y]at y1;generalize cq x.b y.b (pG t)=c at*;by_cases ak:c<0
    ·have aw:=Z<|N.1 ak;have ag:Ze (∀W,Zd wr.heap.size wr W->EY w ((((W.setCell ⟨g,(m+1)*2,none⟩ y.a).setCell ⟨g,(m+1)*2+1,none⟩ y.row).setCell ⟨g,m*2,none⟩ x.a).setCell ⟨g,m*2+1,none⟩ x.row).drew t k9 ob r g B n A S R x m l (y::q)):=λW h=>by
      have h2:=((J.below h).set (i:=m+1) (x:=y) (F▸aI) ⟨aB h D.1,D.2⟩).set (i:=m) (x:=x) (by rw[Wu,F];omega) ⟨(J.below h).d (aB h C.1) _ _ _ _,C.2⟩;refine HJ.swap aw ⟨h2.own,λz hz=>h2.each z hz⟩ ?_ ?_
      ·exact (ab.aL λk hk=>h.block k<|by omega).aL (λk hk=>by
        show((((W.setCell _ _).setCell _ _).setCell _ _).setCell _ _).heap[k]?=_
        rw[VN _ _ _ _ (show k≠g by omega),VN _ _ _ _ (show k≠g by omega),VN _ _ _ _ (show k≠g by omega),VN _ _ _ _ (show k≠g by omega)])
      exact(((((ad.below h).set _ _).set _ _).set _ _).set _ _).drew
     rw[T,U,V,Y]at ag;clear N C D ab ad J am F an aD o Q P;go_wp2;have P:Inhabited<|dx wr:=dx.first wr;refine eV (by kernel_rfl) (by kernel_rfl) ?_;repeat (go_big_quiet_step (exact L _))
     refine wpQuiet_nil ?_;intro _ F;obtain⟨pb,C⟩:=F;subst C;have a4:=ar pb;have a5:=au pb;have Q:=ap pb;have a3:=aq pb;have D:=Z pb.d;have qf:∀o,pb.val.frozen? ⟨g,o,none⟩=false:=λo=>(Za.frozen?_of_block<|pb.d.block g O).trans<|(bF I) o;have J:g<pb.val.heap.size:=by have:=pb.d.size;omega
     generalize pb.val=W at*;go_wp2;go_region;go_wp2;go_roundw;exact⟨m,l,y::q,by go_num,by omega,by omega,ag W D⟩;simp[Zk]
    have aG:j6 t y x=true:=by
     rcases hb:j6 t y x with _|_
     .exact absurd (N.2 hb) ak
     rfl
    have h:Ze (∀W,Zd wr.heap.size wr W->zH W r (.slice (some ⟨g,0,none⟩) n B) (og t d a<|i+1)/\aH g w W):=λW hb=>by rw[E];exact⟨(HJ.stop af<|.inr ⟨y,l,rfl,aG⟩).below hb,ad.below hb⟩
    go_wp2;have a2:Inhabited<|dx wr:=dx.first wr;refine eV (by kernel_rfl) (by kernel_rfl) ?_;repeat (go_big_quiet_step (exact L _))
    refine wpQuiet_nil ?_;intro _ aL;obtain⟨pb,z⟩:=aL;subst z;have ay:=Z pb.d;generalize pb.val=W at*;go_wp2;go_roundw;exact⟨i+1,by go_num,by omega,by omega,.inl<|by omega,h W ay⟩;simp[Zk];omega
   have D:j=a:=by omega
   have F:decide (((a:Nat):Int)<((j:Nat):Int))=false:=by simp;omega
   have c:Ze (∀W,Zd wr.heap.size wr W->zH W r (.slice (some ⟨g,0,none⟩) n B) (og t d a<|i+1)/\aH g w W):=λW C=>by
    rw[E];have o:p=[]:=by
     have:=HJ.len;cases p with
     |nil=>rfl
     |cons z l=>simp at this;omega
    exact⟨(HJ.stop af<|.inl o).below C,HJ.aL.below C⟩
   go_wp2;have G:Inhabited<|dx wr:=dx.first wr;refine eV (by kernel_rfl) (by kernel_rfl) ?_;repeat (go_big_quiet_step (fail))
   refine wpQuiet_nil ?_;intro _ u;obtain⟨pb,h⟩:=u;subst h;have k:=Z pb.d;generalize pb.val=W at*;go_wp2;go_roundw;exact⟨i+1,by go_num,by omega,by omega,.inl<|by omega,c W k⟩;simp[Zk];omega
  have k:Ze<|og t d a i=og t d a b:=by
   unfold Ze;obtain h|h:=aE
   .rw[show i=b by omega]
   by_cases c:b=a+1
   .rw[h,c]
   have j:b=a:=by omega
   rw[h,j,(sH t d a).1,(sH t d a).2]
  go_wp2;exact WL (v:=.tuple #[]) (by simp[Zh,results258,go_sem]) rfl ⟨rfl,by rw[<-k];exact HI.1,HI.2⟩
def tp(N L:Nat):Prop:=∀(ks:List Key)(k9:List Int)(ob base:Nat)(v:Zb)(xs:List Rk)(w:Za),ks.length<=L->k9.length=ks.length->xs.length<=N->zH w base v xs->vQ w ob ks->ob<base->(∀x∈xs,E3 ks k9 x) ->
 Zc prog 174 #[v,lr ob] w λe w'=>e=.returned (.tuple #[])/\zH w' base v (bL (j6 ks) xs)/\Zd base w w'
def PW{f:Zb}(w:Za):Zc prog 258 #[qN,qI 0,qI 0,f] w<|qE (.tuple #[]) w:=by
 go_in;go_wp2
 go_loopw [8] (λa wr=>a=qI 1/\wr=w) (λs _=>0)
 exact⟨rfl,rfl⟩;obtain⟨rfl,rfl⟩:=hrel;go_wp2;exact WL (v:=.tuple #[]) (by simp[Zh,results258,go_sem]) rfl ⟨rfl,rfl⟩
def Lp(b:List Key)(a:List Rk):og b a 0 a.length=bL (j6 b) a:=by unfold og;simp
def xg(h:aH n w W)(a:i<=n)(b:i<=w.heap.size):Zd i w W:=
 ⟨h.os,h.tape,h.output,h.size,λk hk=>h.block k (by omega)<|by omega⟩
def G_(a:Zg->Za->Prop)(c:∀e p,a e p->e=.returned (.tuple #[])){g:Y8}(r:n<=19){f:Zb}(i:Zc prog 258 #[.slice g n k,qI 0,qI (n:Int),f] w a):
 Zc prog 229 #[.slice g n k,qI (n:Int),f] w a:=by
 have h:=Z i;have b:=Z c;go_in;go_wp2
 go_loopw [7,8] (λl o wr=>l=qI 0/\o=qI 20/\wr=w) (λ_ _ _=>0)
 exact⟨rfl,rfl,rfl⟩
 case round=>
  obtain⟨rfl,rfl,rfl⟩:=hrel;go_wp2_with refine h.mono ?_;intro e q (d:Ze _);obtain rfl:=b.o _ _ d;go_wp2
  go_loopw [6] (λj wr=>j=qI 20/\wr=q) (λ_ _=>0)
  exact⟨rfl,rfl⟩;obtain⟨rfl,rfl⟩:=hrel;go_wp2;exact WL (v:=.tuple #[]) (by simp[Zh,results229,go_sem]) rfl d
def uM(a:Zg->Za->Prop)(c:∀e j,a e j->e=.returned (.tuple #[])){g:Y8}{f:Zb}(i:Zc prog 229 #[.slice g n k,qI (n:Int),f] w a):
 Zc prog 174 #[.slice g n k,f] w a:=by
 have h:=Z i;have b:=Z c;go_in;go_wp2_with refine h.mono ?_;intro e l (d:Ze _);obtain rfl:=b.o _ _ d;go_wp2;exact WL (v:=.tuple #[]) (by simp[Zh,results174,go_sem]) rfl d
def G9(X:dD){L:Nat}:tp 19 L:=by
 intro ks k9 ob base v c w _ j u b q x i;obtain⟨z,A,y,_⟩:=cz b.own;have d:∀e a,(λ(e:Zg) (a:Za)=>e=.returned (.tuple #[])/\zH a base v (bL (j6 ks) c)/\Zd base w a) e a->e=.returned (.tuple #[]):=λe a h=>h.1;have l:Zc prog 258 #[v,qI 0,qI (c.length:Int),lr ob] w λe a=>e=.returned (.tuple #[])/\zH a base v (bL (j6 ks) c)/\Zd base w a:=by
  obtain⟨rfl,o⟩|⟨g,cap,n,rfl,r,t,_⟩:=b.own.2
  .obtain rfl:c=[]:=V3.1 o;apply qS<|PW w;exact⟨rfl,b,qW⟩
  have:=TY X k9 j qO qZ rfl (by omega) b q (by omega) i;apply qR this;rintro a⟨k,p⟩;rw[Lp]at k;exact⟨rfl,k,xg p r (by have:=lB t;omega)⟩
 rw[y]at l d ⊢;exact uM _ d<|G_ _ d u l
def Sc:(prog.info? 288).map (λi=>(i.zero,i.size,i.bytes))=some (some<|.agg #[qN,qN],2,48):=by kernel_rfl
structure RR where
 p:au
 q:au
def RR.P(r:RR):Rk:=⟨r.q.1,r.q.2,r.p.2⟩
structure H8(w wr:Za)(O:Obj)(o:aV<|List YW)(ab:YY)(ts:Y6)(ps:YZ)(i:Nat)(v:Zb)(rs:List RR):Prop where
 d:Zd (w.heap.size+1) (w.alloc O) wr
 P:zH wr (w.heap.size+1) v<|rs.map RR.P
 rows:rs.map RR.p=ps.take i
 len:rs.length=i
 e:o=ie (rs.map λr=>r.q.1) (aU ab ts<|(ps.drop i).map (·.1))
def H8.low{wr:Za}{O:Obj}{o:aV (List YW)}{e:Y6}{c:YZ}{v:Zb}{d:List RR}(h:H8 w wr O o F e c i v d):qB w wr/\wr.heap[w.heap.size]?=some O/\w.heap.size+1<=wr.heap.size:=by have a:=h.d;have b:=a.size;simp at b;refine⟨((VM w.heap.size w).alloc qZ O).trans<|a.mono<|Xn _,?_,b⟩;rw[a.block _<|WC _];exact aM _ _
def H8.next{wr w2:Za}{O:Obj}{o:aV (List YW)}{y:Y6}{g:YZ}{v v':Zb}{t:List RR}{p:au}(h:H8 w wr O o F y g i v t)(q:g[i]?=some p)(G:g.drop i=p::g.drop (i+1))(E:bH F p.1 y=.ok I)(r:∃a m c,p.2=.slice a m c)(l:qB wr w2)(H:w2.ownsRow wr.heap.size 34 3 u I.length<|c_ I)
 (e:W.ownsRow (w.heap.size+1) 288 2 v' (i+1)<|oL (t.map RR.P)++[u,p.2]) (n:w2.grownBy W v.ownBlock):H8 w W O o F y g (i+1) v'<|t++[⟨p,(I,u)⟩]:=by
 obtain⟨z,j,C,A,D⟩:=h;have B:=z.size;simp at B;have J:=l.size;have d:=aB l j.own;refine⟨a_ (z.trans<|l.mono B) n (λk hk=>(j.own.lt k hk).1)<|by omega,⟨?_,λx b=>?_⟩,?_,by simp[A],?_⟩
 .rw[Wc,BE,VH,VL,A];exact e
 .rw[Wc]at b;obtain b|b:=V1.1 b
  .exact⟨eU (aB l (j.each x b).1) d n<|by decide,(j.each x b).2⟩
  simp at b;subst b;exact⟨bU (eU H d n<|by decide)<|by omega,r⟩
 .rw[V9,q];simp[C]
 .rw[D,G,We,x8 E];simp
def Tm(w wr:Za)(xs:List Rk)(i:Nat)(v:Zb):Prop:=qB w wr/\wr.ownsRow w.heap.size 32 1 v i ((xs.take i).map Rk.row)
def zV(w:Za)(o:aV<|List YW)(ps:YZ)(ds:List Bool)(e:Zg)(w':Za):Prop:=qB w w' /\
 ((∃er,o=.error er/\e=.returned (.tuple #[qN,qI (er:Nat)])) \/
  (∃dy qs v,o=.ok dy/\qs.map (·.1)=fA (ps.map (·.1)) dy ds/\(∀q∈qs,q∈ps)/\qs.length=ps.length/\e=.returned (.tuple #[v,qI 0])/\w'.ownsRow w.heap.size 32 1 v qs.length (df qs)))
def Kf{α β:Type}(f:α->β)(b:α->α->Bool)(a:β->β->Bool)(x:α):∀(l:List α),(∀y∈l,b x y=a (f x) (f y))->(fw b x l).map f=fw a (f x) (l.map f)
 |[],_=>rfl
 |y::l,h=>by
  unfold fw;rw[h y<|by simp,We];simp only;split
  .rfl
  rw[We,Kf f b a x l λz c=>h z<|by simp[c]]
def tC{α β:Type}(f:α->β)(d:α->α->Bool)(c:β->β->Bool):∀(l:List α),(∀x∈l,∀y∈l,d x y=c (f x) (f y))->(bL d l).map f=bL c (l.map f)
 |[],_=>rfl
 |x::l,h=>by show(fw d x<|bL d l).map f=fw c (f x) (bL c<|l.map f);rw[<-tC f d c l (λa e b g=>h a (by simp[e]) b<|by simp[g])];exact Kf f d c x _ λy i=>h x (by simp) y<|by simp[iO i]
def L0{ks:List Key}{k9:List Int}(h:k9.length=ks.length){c:List RR}(e:∀r∈c,E3 ks k9 r.P):∃d:List RR,d.map RR.P=bL (j6 ks) (c.map RR.P)/\(d.map RR.p).map (·.1)=fA ((c.map RR.p).map (·.1)) (c.map λr=>r.q.1) (pG ks)/\(∀r∈d,r∈c)/\d.length=c.length:=by
 refine⟨bL (λa b=>j6 ks a.P b.P) c,tC RR.P _ _ c λx _ y _=>rfl,?_,λr g=>iO g,iq _ _⟩;unfold fA;have k:(c.map λr=>r.q.1).zip ((c.map RR.p).map (·.1))=c.map (λr=>(r.q.1,r.p.1)):=by
  induction c with
  |nil=>rfl
  |cons a l ih=>simp only[We,Yk];rw[ih λr g=>e r<|by simp[g]]
 rw[k,<-tC (λr:RR=>(r.q.1,r.p.1)) (λa b=>j6 ks a.P b.P) _ c ?_]
 .rw[Ww,Ww];rfl
 intro x i y j;unfold j6;show _=decide (cq x.q.1 y.q.1 (pG ks)<=0);rw[mO k9 (pG ks) x.q.1 y.q.1 (by simp[pG,h]) (e x i).2 (e y j).2];rfl
def zH.at{v:Zb}{b:List Rk}(h:zH w n v b){x:Rk}(e:b[i]?=some x):∃g cap,v=qL g b.length cap/\g<w.heap.size/\w.cell? ⟨g,i*2,none⟩=some x.a/\w.cell? ⟨g,i*2+1,none⟩=some x.row:=by
 obtain⟨_,o⟩|⟨g,cap,c,l,_,d,_,_,_,j⟩:=h.own.2
 .have:=bw e;omega
 have a:∀k u,(oL b)[k]?=some u->c[k]?=some u:=λk u hk=>by
  rw[<-j,V6]at hk;split at hk
  .simpa using hk
  cases hk
 exact⟨g,cap,l,lB d,(bC d _).trans<|a _ _ (oW e).1,(bC d _).trans<|a _ _ (oW e).2⟩
def Nv(X:dD)(HS:tp n j)(y:YY)(C:List<|aA×Zb){b:YZ}{E:List Key}(hm:rO w w.heap.size b z)(S:jD w w.heap.size y C A)(I:br w w.heap.size 2 IU E B)(aE:∀k∈E,∃p,k.2.1=.pointer p)(ac:C.length=E.length)(hf:∀p∈C,gR y p.1)(ag:∀p∈b,aZ y p.1)(hl:b.length<=n)(hN:n<=1048576)(aI:E.length<=1000)(aD:E.length<=j):
 Zc prog 112 #[z,A,B] w (zV w (aU y (C.map (·.1))<|b.map (·.1)) b<|pG E):=by
 obtain⟨ra,rc,rfl⟩:=hm.1.slice;obtain⟨ka,kc,rfl⟩:=I.slice;obtain⟨i0,hi,aO,aP,aQ⟩:=V5 Sc;obtain⟨j0,hj,aL,aM,aN⟩:=V5 iN;have HM:=Z hm;have HP:=Z S;have HF:=Z hf;have H:=Z ag;have HK:=Z I;have aq:=Z aE;have l:=Z ac;have av:=Z HS;generalize ho:aU y (C.map (·.1)) (b.map (·.1))=o;have HO:=Z ho;go_in;go_wp2;have ao:Ze<|H8 w (w.alloc<|.cells #[.slice ka E.length kc] 227) (.cells #[.slice ka E.length kc] 227) o y (C.map (·.1)) b 0 qN []:=
  ⟨qW,⟨VP _ _ _ _,by simp⟩,rfl,rfl,by rw[<-HO];simp;cases aU y (C.map (·.1)) (b.map (·.1))<;>simp[ie]⟩
 go_loopw [8,18] (λs8 aT wr=>∃(i:Nat) (N:List RR),i<=b.length/\aT=qI i/\Ze (H8 w wr (.cells #[.slice ka E.length kc] 227) o y (C.map (·.1)) b i s8 N)) (λ_ a _=>b.length-(Zk a).toNat)
 exact⟨0,[],qO,rfl,ao⟩
 case round=>
  obtain⟨i,N,aC,rfl,D⟩:=hrel;obtain⟨G,aa,a4⟩:=D.low;have a6:w.heap.size<wr.heap.size:=by omega
  obtain⟨a7,a9,a8,rfl⟩:=aF D.P.own;by_cases R:i<b.length
  .have M:b[i]?=some b[i]:=VE R;have HD:Ze<|b.drop i=b[i]::b.drop (i+1):=VJ R;have d:=VQ R;generalize b[i]=p at*;obtain⟨J,aR⟩:=p;obtain⟨g,cap,he,hg,e0⟩:=(HM.1.aL λk I=>G.block k I).c M;cases he;have a5:g<wr.heap.size:=by omega
   obtain⟨Q,T,aH⟩:∃a c,aR=.slice a J.length c:=(HM.2 _ d).slice;subst aH;have O:=H.o _ d;have K:=Z<|vF X (HP.below G) ((HM.2 _ d).below G) HF ⟨O.2.1,by rw[O.1];exact qZ⟩ (by have:=l.o;omega);have W:=Z M;simp only at e0;go_wp2_with refine K.mono ?_;rintro e w2⟨L,aG⟩;have t:=Z L;have P:=L.size;obtain⟨Y,q,rfl⟩|⟨r,u,q,rfl,hu⟩:=aG
   .have x:((Y:Int) != 0)=true:=by have:=kF q;simp;omega
    have h:Ze<|o=.error Y:=by rw[Ze,D.e,HD];exact An q
    go_wp2;go_ret2;exact⟨D.low.1.trans<|t.mono<|by omega,.inl ⟨Y,h,rfl⟩⟩
   obtain⟨ua,un,uc,rfl⟩:=aF hu;have HU:=Z hu;have U:=Z q;have h:=aB t D.P.own;have aw:=D.len;rw[VL,aw]at h;go_wp2_with (at_builtin;refine VS _ rfl (.tmp 31) (.tmp 35) 286 rfl (w.heap.size+1) 288 i0 _ 2 48 underlying286 hi aO aP aQ rfl (by decide) _ _ _ rfl (h.alloc _) ⟨w2.heap.size,0,none⟩ 1 1 [.slice ua un uc,.slice Q J.length T] rfl rfl ?c1 ?c2 ?c3 ?c4 ?c5 ?_)
   case c1=>exact cW w2 [.slice ua un uc,.slice Q J.length T] 288
   case c2=>intro x hx;simp at hx;obtain rfl|rfl:=hx<;>rfl
   case c3=>unfold Zj;omega
   case c4=>omega
   case c5=>simp;omega
   intro v' w4 F ay a1;have V:=Z<|D.next (p:=(J,.slice Q J.length T)) (w2:=w2.alloc<|.cells #[.slice ua un uc,.slice Q J.length T] 288) W HD U ⟨_,_,_,rfl⟩ (t.alloc P _) (HU.alloc _) F ay;go_wp2;go_roundw;exact⟨i+1,_,by omega,by go_num,V⟩;simp[Zk];omega
  obtain rfl:i=b.length:=by omega
  have HE:Ze<|o=.ok (N.map λr=>r.q.1):=by rw[Ze,D.e,Wa];simp[aU,ie]
  have U:N.map RR.p=b:=by rw[D.rows,Wj]
  have ab:aU y (C.map (·.1)) (b.map (·.1))=.ok (N.map λr=>r.q.1):=by rw[HO];exact HE
  have L:∀t∈C.map (·.1),cY t:=λt ht=>by obtain⟨p,S,rfl⟩:=VV.1 ht;exact(HF p S).1
  have ai:∀t∈C.map (·.1),∃ty,bD y t=.ok ty:=λt ht=>by obtain⟨p,S,rfl⟩:=VV.1 ht;exact(HF p S).2
  have af:∀r∈b.map (·.1),aZ y r:=λr T=>by obtain⟨p,S,rfl⟩:=VV.1 T;exact H p S
  have K:∀r∈N,E3 E (fF y<|C.map (·.1)) r.P:=λr T=>by have d:r.q.1∈N.map (λr=>r.q.1):=V0 T;refine⟨?_,rq L ai af ab _ d⟩;have:=((qk L af ab).2 _ d).1;rw[VL]at this;exact this.trans l
  obtain⟨F,s1,(ar:Ze _),(au:Ze _),s4⟩:=L0 (ks:=E) (k9:=fF y<|C.map (·.1)) (by simp[fF];exact l) K;have c:=Z<|av E (fF y<|C.map (·.1)) w.heap.size (w.heap.size+1) _ (N.map RR.P) wr aD (by simp[fF];exact l) (by rw[VL,D.len];exact hl) D.P ⟨⟨_,aa,HK.aL λk I=>G.block k I⟩,aq,aI⟩ (WC _) (λx hx=>by obtain⟨r,T,rfl⟩:=VV.1 hx;exact K r T);rw[<-s1]at c;have ah:F.length=b.length:=by rw[s4];exact D.len
  have u:=Z U;unfold lr at c;obtain⟨h,(P:Ze _)⟩:∃h,F.map RR.P=h:=⟨_,rfl⟩;have aj:h.length=b.length:=by rw[<-P,VL];exact ah
  rw[P]at c;go_wp2_with fail;apply qR c;rintro w3⟨M,ax⟩;have W:=Z M;have O:Ze<|qB w w3:=D.low.1.trans<|ax.mono<|Xn _;obtain⟨ba,bb,V,_⟩:=cz M.own;have a3:=Z V;rw[aj]at V;injection V with hva hvn hvc;subst hva hvn hvc;go_wp2
  go_loopw [13,43] (λaS aV wr=>∃(i:Nat),i<=h.length/\aV=qI i/\Ze (Tm w3 wr h i aS)) (λ_ a _=>h.length-(Zk a).toNat)
  exact⟨0,qO,rfl,qW,VP _ _ _ _⟩;obtain⟨i,aC,rfl,HJ⟩:=hrel;have Q:=HJ.1;have d:=HJ.2;have a0:=Q.size;obtain⟨aW,aY,aX,rfl⟩:=aF d;by_cases J:i<h.length
  .have ae:h[i]?=some h[i]:=VE J;have an:Ze<|h.take (i+1)=h.take i++[h[i]]:=by rw[Ze,V9,ae];rfl
   have ad:=VQ J;generalize h[i]=x at*;obtain⟨g,cap,he,hg,e0,e1⟩:=(W.below Q).at ae;rw[aj]at he;cases he;obtain⟨aJ,ak,am,al,(Y:Ze _)⟩:=W.each x ad;obtain⟨xa,xn,xc,aK⟩:=aF aJ;rw[aK]at e0;rw[Y]at e1;go_wp2_with (at_builtin;refine VS _ rfl (.tmp 47) (.tmp 50) 29 rfl w3.heap.size 32 j0 _ 1 24 underlying29 hj aL aM aN rfl (by decide) _ _ _ rfl ((d.alloc _).alloc _) ⟨wr.heap.size+1,0,none⟩ 1 1 [.slice ak am al] rfl rfl ?c1 ?c2 ?c3 ?c4 ?c5 ?_)
   case c1=>exact uC wr _ [.slice ak am al] 32
   case c2=>intro x hx;simp at hx;subst hx;rfl
   case c3=>unfold Zj;omega
   case c4=>omega
   case c5=>simp;omega
   intro v' w4 q az a2;have ap:Ze<|Tm w3 w4 h (i+1) v':=by refine⟨a_ ((HJ.1.alloc HJ.1.size _).alloc (by simp;omega) _) az (λk I=>(d.lt k I).1) (by simp;omega),?_⟩;rw[an,Wc,XR];show w4.ownsRow _ _ _ _ _ (_++[x.row]);rw[Y];exact q
   go_wp2;go_roundw;exact⟨i+1,by omega,by go_num,ap⟩;simp[Zk];omega
  obtain rfl:i=h.length:=by omega
  rw[Wj]at d;have g:Ze<|wr.ownsRow w.heap.size 32 1 (.slice aW aY aX) (F.map RR.p).length<|df<|F.map RR.p:=by unfold Ze;have h2:=bU d O.size;rw[<-P,Ww,VL]at h2;rw[VL];unfold df;rw[Ww];exact h2
  have Y:Ze<|qB w wr:=O.trans<|Q.mono O.size;go_wp2;go_ret2;refine⟨Y,.inr ⟨_,F.map RR.p,_,HE,?_,λq hq=>?_,by rw[VL];exact ah,rfl,g⟩⟩
  .have:=ar.o;rw[u]at this;exact this
  obtain⟨r,T,rfl⟩:=VV.1 hq;rw[<-u];exact V0<|au r T
