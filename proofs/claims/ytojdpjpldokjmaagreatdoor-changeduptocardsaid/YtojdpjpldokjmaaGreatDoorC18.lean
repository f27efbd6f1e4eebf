import Derived.Test.YtojdpjpldokjmaaGreatDoorC15
import Derived.Test.YtojdpjpldokjmaaGreatDoorC17
set_option maxHeartbeats 0
set_option maxRecDepth 100000
set_option linter.all false
namespace Go.Proofs.YtojdpjpldokjmaaGreatDoor
open Go.Deep Go.RowKit Tryz
open Go renaming World->Za,Value->Zb,Calls->Zc,callFunc->Zi
open RowKit renaming Below->Zd,Hid->Ze,intOf->Zk
variable{W w x:World}{G H:Y7}{i j k n:Nat}{K:aI}{M a:Int}{A B C u z:Value}{X Y:YX}{F:YY}{R S:aA}{I:YW}
def Gl(k:Nat):Prop:=k=9\/k=1\/k=8\/k=5\/k=2\/k=0
structure Pr where
 a:Nat
 b:Nat
 c:Nat
 M:Nat->Prop
 R:Nat->Prop
 lay:Zn
 d:Zn
 D:aI
 E:aI
structure Rq(w:Za)(p:Pr):Prop where
 box:w.heap[p.a]?=some (.cells #[qP p.b,qP p.c] 70)
 live:Live w p.M p.b p.lay p.D
 a:Pb w p.M
 ref:jE w p.R p.c p.d p.E
def pR(p:Pr):Zb:=qP p.a
def Live.c{b:Zn}(h:Live w G n b K)(c:w.heap.size<=W.heap.size)(a:∀k,G k\/Gl k->W.heap[k]?=w.heap[k]?):Live W G n b K:=
 ⟨⟨h.ex.a.aL c λk d=>a k<|.inl d,h.ex.rules.aL<|a _<|.inr<|.inl rfl,h.ex.d.1,VT h.ex.d.2 c⟩,h.spell.same<|a _<|.inr<|.inr<|.inl rfl,h.err.same<|a _<|.inr<|.inr<|.inr<|.inl rfl,h.gs,h.ge,h.pow.aL<|a _<|.inr<|.inr<|.inr<|.inr<|.inl rfl,h.a⟩
def Pb.c(h:Pb w G)(b:∀k,Gl k->W.heap[k]?=w.heap[k]?):Pb W G:=
 ⟨h.g.aL (λk a=>b k (by
  obtain e|e|e:=a
  .exact .inr<|.inr<|.inr<|.inl e
  .exact .inr<|.inr<|.inr<|.inr<|.inl e
  .exact .inr<|.inr<|.inr<|.inr<|.inr e)),h.not⟩
def Rq.aL{w':Za}{p:Pr}(h:Rq w p)(c:w.heap.size<=w'.heap.size)(a:∀k,p.M k\/p.R k\/Gl k\/k=p.a->w'.heap[k]?=w.heap[k]?):Rq w' p:=
 ⟨(a _<|.inr<|.inr<|.inr rfl).trans h.box,h.live.c c λk b=>a k<|b.elim (λh=>.inl h) λh=>.inr<|.inr<|.inl h,h.a.c λk d=>a k<|.inr<|.inr<|.inl d,h.ref.aL c λk e=>a k<|.inr<|.inl e⟩
def Oo{d:Nat->Int}(c:pE w G W H)(e:∀k,G k->d k=a):∃b:Nat->Int,(∀k,k<w.heap.size->b k=d k)/\(∀k,H k->b k=a)/\(KP (λk=>k<w.heap.size/\d k≠a) w W):=by
 refine⟨λk=>if k<w.heap.size then d k else a,λk hk=>VG hk,λk hk=>?_,⟨c.aL.os,c.aL.tape,c.aL.output,c.aL.size,λk hk=>c.aL.block k ⟨hk.1,λh=>hk.2<|e k h⟩⟩⟩;show(if k<w.heap.size then d k else a)=a;split
 .obtain h|h:=c.new k hk
  .exact e k h
  omega
 rfl
def Rq.lt{p:Pr}(h:Rq w p):p.a<w.heap.size/\(∀k,p.M k->k<w.heap.size)/\∀k,p.R k->k<w.heap.size:=⟨lB h.box,h.live.ex.a.lt,h.ref.lt⟩
def mF{a:List Pr}{p q x:Pr}(c:a[i]?=some p)(h:(a.set i x)[j]?=some q):(j=i/\q=x)\/(j≠i/\a[j]?=some q):=by
 rw[Wq]at h;split at h
 .rename_i e;subst e;rw[VG<|bw c]at h;cases h;exact .inl ⟨rfl,rfl⟩
 rename_i e;exact .inr ⟨λb=>e b.symm,h⟩
def KA{a:List Pr}{p x:Pr}(b:a[i]?=some p)(c:x.a=p.a):(a.set i x).map pR=a.map pR:=by
 apply WX;intro j;rw[VO,VO,Wq];split
 .rename_i e;subst e;rw[VG<|bw b,b];simp[pR,c]
 rfl
def qM(op:Nat)(a:ai)(o2:aV ai):aV ai:=match o2 with
 |.error e=>.error e
 |.ok b=>fH op a b
def u_(op:Nat)(o1 o2:aV ai):aV ai:=match o1 with
 |.error e=>.error e
 |.ok a=>@ite _ (17<=op/\a=bh (op==18)) (@instDecidableAnd _ _ _<|j3 a<|bh<|op==18) (.ok a)<|qM op a o2
def rJ{T:TypeId}(h:w.heap[k]?=some (.cells #[u,z,A] T)):k<w.heap.size/\w.cell? ⟨k,0,none⟩=some u/\w.cell? ⟨k,1,none⟩=some z/\w.cell? ⟨k,2,none⟩=some A/\w.frozen? ⟨k,0,none⟩=false/\w.frozen? ⟨k,1,none⟩=false/\w.frozen? ⟨k,2,none⟩=false:=by have a:=bC h 0;have b:=bC h 1;have c:=bC h 2;simp at a b c;exact⟨lB h,a,b,c,bF h 0,bF h 1,bF h 2⟩
def Fe{m:Int}{s:YX}(h:w.heap[k]?=some (rB n u z a m s X Y)):k<w.heap.size/\w.cell? ⟨k,0,none⟩=some (.string<|iX n)/\w.cell? ⟨k,2,none⟩=some z:=by have b:=bC h 0;have c:=bC h 2;simp at b c;exact⟨lB h,b,c⟩
def Bu(o:aV ai):∃(x y:Int)(z:Y9)(a:Int),lI o=.tuple #[.agg #[qI x,qI y,.string z],qI a]:=by
 cases o with
 |error e=>exact⟨_,_,_,_,rfl⟩
 |ok v=>exact⟨_,_,_,_,rfl⟩
def It{d:Y_}:(Zi 193 d).run prog w=.ok (.enter 193 d) w:=by
 have g:(f193.name == "runtime.NumGoroutine")=false:=by kernel_rfl
 have c: f193.body.isNone=false:=by kernel_rfl
 have a:¬f193.name = "runtime.NumGoroutine":=by simpa using g
 have b:¬f193.body=none:=by intro e;rw[e]at c;cases c
 simp[Zi,go_sem,func193,a,b]
def Uu{h:Y9}(j:∀W:Za,Zc prog 193 #[.string h,qI a,qI M] W<|qF u W)(g:x.heap[w.heap.size]?=some zG)(d:qB w x):Zc prog 193 #[.string h,qI a,qI M] x.drew λe c=>∃v,e=.returned v/\(v=u/\c.heap[w.heap.size]?=some zG/\qB w c):=by apply qR<|j x.drew;intro c i;have b:qB x c:=qW.drew.trans i;exact⟨_,rfl,rfl,bB b (lB g) g,d.trans<|b.mono d.size⟩
def Bv(o:aV ai)(h:∀e,o=.error e->e≠0):∃(x:ai)(a:Nat),lI o=.tuple #[.agg #[qI x.aC,qI x.n,qT x.s],qI (a:Nat)]/\((o=.error a/\a≠0)\/(o=.ok x/\a=0)):=by
 cases o with
 |error e=>exact⟨aE,e,rfl,.inl ⟨rfl,h e rfl⟩⟩
 |ok v=>exact⟨v,0,rfl,.inr ⟨rfl,rfl⟩⟩
def FZ{a b l:ai}(e:dv a)(i:dv b)(g:b≠l)(j:(a.c||b.c)=true):fM a b l=aE:=by
 have d:∀c:ai,dv c->c.c=true->c=aE:=λc o h=>by
  have hk:c.aC=0:=by simpa[ai.c]using h
  obtain h|h|h|h:=o
  .obtain⟨k,n,s⟩:=c;simp at h;obtain⟨rfl,rfl,rfl⟩:=h;rfl
  all_goals omega
 unfold fM;cases hb:b.c with
 |true=>rw[VG<|.inr rfl];exact d b i hb
 |false=>
  rw[VF λh=>h.elim g λh=>by cases h];exact d a e (by rw[hb]at j;simpa using j)
def FY{a b:ai}(t:Bool)(g:dv a)(j:dv b)(i:cX 3 a)(l:cX 3 b)(w:a≠bh t)(e:b≠bh t)(r:a.c=false)(q:b.c=false):fM a b (bh t)=b:=by
 have d:∀c:ai,dv c->cX 3 c->c.c=false->c≠bh t->c=bh (!t):=λc o x h d=>by
  have hk:c.aC≠0:=by simpa[ai.c]using h
  obtain⟨k,n,s⟩:=c;unfold cX at x;unfold dv at o;simp[bh]at*;have p:k=3:=by omega
  subst p;simp at o;obtain⟨u,rfl⟩:=o;cases t<;>obtain rfl|rfl:=u<;>simp_all
 unfold fM;rw[VF λh=>h.elim e (λh=>by rw[q]at h;cases h)];rw[d a g i r w,d b j l q e]
def Ma{a x:ai}{e:aV ai}(y:6<=n)(g:dv a)(w:(e=.error k/\k≠0)\/(e=.ok x/\k=0))(l:∀b,e=.ok b->dv b)(p:11<=n->n<=16->∀b,e=.ok b->a.c=false->b.c=false->fy a b=dz a b)
 (o:17<=n->cX 3 a/\∀b,e=.ok b->cX 3 b)(t:n<=18)(u:17<=n->a≠bh (n==18)):
 (((k:Int) != 0)=true/\lI (qM n a e)=.tuple #[.agg #[qI 0,qI 0,.string ⟨#[]⟩],qI (k:Nat)]) \/
 k=0/\(((17<=n/\Nf x.aC x.n ⟨x.s.toArray⟩ (bh<|n==18).aC (bh<|n==18).n ⟨(bh<|n==18).s.toArray⟩=true\/17<=n/\Nf x.aC x.n ⟨x.s.toArray⟩ (bh<|n==18).aC (bh<|n==18).n ⟨(bh<|n==18).s.toArray⟩=false/\(a.aC==0)=false/\(x.aC==0)=false)/\lI (qM n a e)=.tuple #[.agg #[qI x.aC,qI x.n,qT x.s],qI 0] \/
  ((17<=n->Nf x.aC x.n ⟨x.s.toArray⟩ (bh<|n==18).aC (bh<|n==18).n ⟨(bh<|n==18).s.toArray⟩=false)/\((a.aC==0)=true\/(a.aC==0)=false/\(x.aC==0)=true))/\lI (qM n a e)=.tuple #[.agg #[qI 0,qI 0,.string ⟨#[]⟩],qI 0]) \/
  n<=16/\(a.aC==0)=false/\(x.aC==0)=false/\lI (qM n a e)=lI (if n<=10 then dd n a.n x.n else .ok (bh<|lU n<|fy a x))):=by
 obtain⟨rfl,h⟩|⟨rfl,h⟩:=w
 .exact .inl ⟨by simp;omega,rfl⟩
 refine .inr ⟨h,?_⟩;rw[yW];simp only[qM];unfold fH;have j:∀v:ai,v.c=(v.aC==0):=λv=>rfl;have i:(a.c||x.c)=true->(a.aC==0)=true\/(a.aC==0)=false/\(x.aC==0)=true:=λh=>by
  rw[j,j]at h;cases d:(a.aC==0)with
  |true=>exact .inl rfl
  |false=>rw[d]at h;exact .inr ⟨rfl,by simpa using h⟩
 by_cases c:17<=n
 .rw[VG<|by omega];refine .inl ?_;by_cases d:x=bh (n==18)
  .refine .inl ⟨.inl ⟨c,ai.d d⟩,?_⟩;unfold fM;rw[VG<|.inl d];rfl
  have hs:=ai.g d;cases hm:(a.c||x.c)with
  |true=>exact .inr ⟨⟨λ_=>hs,i hm⟩,by rw[FZ g (l x rfl) d hm];rfl⟩
  |false=>
   obtain⟨q,r⟩:a.c=false/\x.c=false:=by simpa using hm
   exact .inl ⟨.inr ⟨c,hs,q,r⟩,by rw[FY _ g (l x rfl) (o c).1 ((o c).2 x rfl) (u c) d q r];rfl⟩
 .rw[VF<|by omega];cases hm:(a.c||x.c)with
  |true=>exact .inl<|.inr ⟨⟨λh=>absurd h c,i hm⟩,rfl⟩
  |false=>
   obtain⟨q,r⟩:a.c=false/\x.c=false:=by simpa using hm
   refine .inr ⟨by omega,q,r,?_⟩;rw[VF<|by simp];by_cases d:n<=10
   .rw[VG d,VG d]
   rw[VF d,VF d,p (by omega) (by omega) x rfl q r]
structure Fr(w0 w:Za)(l:List<|Nat×Obj):Prop where
 a:qB w0 w
 d:∀p∈l,w.heap[p.1]?=some p.2
def Fr.b{l:List (Nat×Obj)}(h:Fr W w l)(a:qB w x):Fr W x l:=⟨h.a.trans<|a.mono h.a.size,λp b=>bB a (lB<|h.d p b)<|h.d p b⟩
def Fr.c {l:List (Nat × Obj)}(h:Fr W w l)(o:Obj):Fr W (w.alloc o)<|(w.heap.size,o) :: l:=⟨h.a.alloc h.a.size o,λp a=>by
 obtain rfl|a:=V8.1 a
 .exact aM w o
 .exact bA (h.d p a) o⟩
def Fr.h{l:List (Nat×Obj)}{k:Nat}{o:Obj}(h:Fr W w<|(k,o)::l):w.heap[k]?=some o:=h.d _<|.head _
def Fr.t{l:List (Nat×Obj)}{p:Nat×Obj}(h:Fr W w<|p::l):Fr W w l:=⟨h.a,λq a=>h.d q<|.tail _ a⟩
abbrev vO(a:ai):Obj:=.cells #[qI a.aC,qI a.n,qT a.s] 34
def GH{x y b:Zb}{a:Y_}(h:W.heap[w.heap.size]?=some (.cells #[A,B,C] 34))(e:qB w W)(c:a[4]?=some (qP w.heap.size))(d:a[5]?=some b)(g:u=.tuple #[.agg #[x,y,z],b]):
 bodyPost prog f134 (qF u w) Exit.ret {tmps:=a,defers:=[]} (((W.setCell ⟨w.heap.size,0,none⟩ x).setCell ⟨w.heap.size,1,none⟩ y).setCell ⟨w.heap.size,2,none⟩ z):=Ut h c d ⟨Wd _ g.symm,((e.setCell qZ _).setCell qZ _).setCell qZ _⟩
def O1(A:2<=k)(B:k<=5){o:aV ai}(z:∀a,o=.ok a->dv a)(y:∀e,o=.error e->e≠0){F:Addr}{m:Int}{s:YX}{v:Zb}(q:w.heap[n]?=some (rB k (.pointer<|some F) u M m s X Y))(j:Pc o v (.pointer<|some F) w)(P:∃a l c,v=.slice a l c):
 Zc prog 134 #[.pointer<|some ⟨n,0,none⟩,v] w λe T=>e=.returned (lI<|qD k o)/\Zd w.heap.size w T:=by
 obtain⟨va,vn,vc,rfl⟩:=P;obtain⟨a,G,d,i⟩:=Bv o y;have t:Fr w w [(n,rB k (.pointer<|some F) u M m s X Y)]:=⟨VM _ _,λp J=>by simp at J;subst J;exact q⟩;unfold Pc at j;simp only[d]at j;have x:=Z<|j _ (t.c zG).a;have D:=Z<|t.c zG;obtain⟨O,g,Q⟩:=Fe q;have b:=bC q 1;simp at b;have r:Ze<|((((G:Nat):Int) != 0)=true/\lI (qD k o)=.tuple #[.agg #[.int .i64 0,.int .i64 0,.string ⟨#[]⟩],.int .i64 (G:Nat)])\/(G=0/\dv a/\lI (qD k o)=lI (il k a)):=by
  rcases i with⟨rfl,h⟩|⟨rfl,h⟩
  .exact .inl ⟨by simp;omega,rfl⟩
  exact .inr ⟨h,z a rfl,rfl⟩
 generalize lI (qD k o)=OO at*;clear j q z y i d t;obtain rfl|rfl|rfl|rfl:k=2\/k=3\/k=4\/k=5:=by omega
 all_goals
  clear A B;simp[iX,mg]at g;go_in;go_wp2_with fail;apply(U x).mono;rintro e K⟨rfl,d⟩;have E:=Z<|D.o.b d;clear x g b d;go_upto_region 8 with fail
  have d:=E.o.c<|vO a;generalize K.alloc (vO a)=L at*;generalize K.heap.size=A at*;obtain⟨ac,V,aa,ab,-⟩:=rJ d.h;obtain⟨B,x,y,z,i,j,q⟩:=rJ d.t.h;obtain⟨ae,H,ad⟩:=Fe d.t.t.h;simp[iX,mg]at H;have b:=Z d;clear d;rcases r.o with⟨N,g⟩|⟨rfl,t,g⟩
  .have C:=Z g;clear g r;go_wp2_with fail;exact GH b.o.t.h b.o.a rfl rfl C.o
  have d:=Z λW=>Ds 0 a.n W (by unfold bK;omega) t.range;rw[Int.zero_sub]at d;have I:(a.aC != 0)=!(a.aC==0):=rfl;clear t r;cases hm:(a.aC==0)<;>cases hn0:(a.n==0);all_goals
   have t:a.c=_:=hm;rw[hm]at I;simp only[il,mB,oq,t,hn0]at g;simp only[Bool.not_true,Bool.not_false]at I;simp at g;generalize fe (-a.n)=S at*;obtain⟨ox,oy,oz,R,r⟩:=Bu S;rw[r]at d;try rw[r]at g
   have C:=Z g;clear g r;go_wp2_with fail
   first
    |exact GH b.o.t.h b.o.a rfl rfl C.o
    | ((first|refine((U d) L).mono ?_|apply(JJ _ L).mono)
       rintro e w3⟨rfl,r⟩;have g:=b.o.b r;clear B x y z i j q r d;obtain⟨B,x,y,z,i,j,q⟩:=rJ g.t.h;have d:=Z g;clear g;try simp only[oK,bh,if_true]
       go_wp2_with fail
       exact GH d.o.t.h d.o.a rfl rfl C.o)
def O3(G:6<=k)(q:k<=18){N I:aV ai}(u:∀a,N=.ok a->dv a)(r:∀e,N=.error e->e≠0)(j:∀b,I=.ok b->dv b)(t:∀e,I=.error e->e≠0)
 (g:11<=k->k<=16->∀a b,N=.ok a->I=.ok b->a.c=false->b.c=false->fy a b=dz a b)(d:17<=k->(∀a,N=.ok a->cX 3 a)/\∀b,I=.ok b->cX 3 b)
 (n:Nat)(av aw:Addr)(kd m:Int)(s al Y:YX)(v:Zb)(w:Za)(E:w.heap[n]?=some (rB k (.pointer<|some av) (.pointer<|some aw) kd m s al Y))(D:Pc N v (.pointer<|some av) w)(F:Pc I v (.pointer<|some aw) w)(hv:∃a l c,v=.slice a l c):
 Zc prog 134 #[qP n,v] w (qF (lI<|u_ k N I) w):=by
 obtain⟨va,vn,vc,rfl⟩:=hv;obtain⟨a,e1,y,C⟩:=Bv N r;obtain⟨x,er,z,o⟩:=Bv I t;have K:Fr w w [(n,rB k (.pointer<|some av) (.pointer<|some aw) kd m s al Y)]:=⟨qW,λp hp=>by simp at hp;subst hp;exact E⟩;unfold Pc at F D;simp only[y]at D;simp only[z]at F;have L:=Z<|D _ (K.c zG).a;have J:=Z F;have ao:=Z<|K.c zG;obtain⟨aB,A,aC⟩:=Fe E;have i:=bC E 1;simp at i
 have B:Ze ((((e1:Int) != 0)=true/\lI (u_ k N I)=.tuple #[.agg #[qI 0,qI 0,.string ⟨#[]⟩],qI (e1:Nat)]) \/
  (e1=0/\(17<=k/\Nf a.aC a.n ⟨a.s.toArray⟩ (bh<|k==18).aC (bh<|k==18).n ⟨(bh<|k==18).s.toArray⟩=true/\lI (u_ k N I)=.tuple #[.agg #[qI a.aC,qI a.n,qT a.s],qI 0] \/
   (17<=k->Nf a.aC a.n ⟨a.s.toArray⟩ (bh<|k==18).aC (bh<|k==18).n ⟨(bh<|k==18).s.toArray⟩=false)/\dv a/\(17<=k->a≠bh (k==18))/\(11<=k->k<=16->∀b,I=.ok b->a.c=false->b.c=false->fy a b=dz a b)/\(17<=k->cX 3 a)/\u_ k N I=qM k a I))):=by
  obtain⟨rfl,h⟩|⟨rfl,h⟩:=C
  .exact .inl ⟨by simp;omega,rfl⟩
  refine .inr ⟨h,?_⟩;rw[yW];unfold u_;simp only;by_cases he:17<=k/\a=bh (k==18)
  .rw[VG he];exact .inl ⟨he.1,ai.d he.2,rfl⟩
  .rw[VF he];exact .inr ⟨λh=>ai.g λe=>he ⟨h,e⟩,u a rfl,λh e=>he ⟨h,e⟩,λh h' b hb=>g h h' a b rfl hb,λh=>(d h).1 a rfl,rfl⟩
 have HX:=Z λ(M:dv a) (g3:17<=k->cX 3 a)=>λR g4=>Ma (a:=a) G M o j R (λh=>⟨g3 h,(d h).2⟩) q g4;have H:Ze (k<=10->dv a->er=0->∀W:Za,Zc prog 193 #[.string<|iX k,qI a.n,qI x.n] W<|qF (lI<|dd k a.n x.n) W):=λax ay h0 W=>by
  obtain⟨_,h⟩|⟨rfl,_⟩:=o
  .exact absurd h0 h
  exact Qp k G ax a.n x.n W ay.range (j x rfl).range
 have ah:=Z λoc W=>JJ (lU k oc) W;have aj:=Z λW=>JJ (k==18) W;have aA:=tA;generalize bh (k==18)=tv at*;generalize O:lI (u_ k N I)=OO at*;have HG:=Z O;clear D E F u j r t g d C o y z K O;obtain rfl|rfl|rfl|rfl|rfl|rfl|rfl|rfl|rfl|rfl|rfl|rfl|rfl:k=6\/k=7\/k=8\/k=9\/k=10\/k=11\/k=12\/k=13\/k=14\/k=15\/k=16\/k=17\/k=18:=by omega
 all_goals
  clear G q;simp[iX,mg]at A;simp only[Nat.reduceBEq]at aj;go_in;go_wp2_with fail;apply qR L;intro w1 d;have ap:=Z<|ao.b d;clear L A i d;go_upto_region 8 with fail
  have o:=ap.c<|vO a;generalize w1.alloc (vO a)=w2 at*;generalize w1.heap.size=A at*;obtain⟨F,C,D,E,-⟩:=rJ o.h;obtain⟨u,q,r,t,d,g,i⟩:=rJ o.t.h;obtain⟨y,j,G⟩:=Fe o.t.t.h;simp[iX,mg]at j;have aa:=Z o;clear o;obtain⟨az,z⟩|⟨rfl,Q⟩:=B.o
  .have O:=Z z;clear z B;go_wp2;exact GH aa.t.h aa.a rfl rfl O
  have HQ:=Z Q;clear Q B;go_wp2_with fail;apply qR<|aj w2;intro w3 o;simp only[oK];have aq:=Z<|aa.b o;clear u q r t d g i F C D E y j G o;go_upto_region 24 with fail
  have o:=aq.c<|vO tv;generalize w3.alloc (vO tv)=w4 at*;generalize w3.heap.size=L at*;obtain⟨X,T,U,V,-⟩:=rJ o.h;obtain⟨F,C,D,E,-⟩:=rJ o.t.h;obtain⟨u,q,r,t,d,g,i⟩:=rJ o.t.t.h;obtain⟨y,j,G⟩:=Fe o.t.t.t.h;simp[iX,mg]at j;have P:=Z o;clear o;obtain⟨ak,S,z⟩|⟨S,Q⟩:=HQ.o
  ·first
    |omega
    | (have O:=Z z
       clear z HQ;go_wp2
       exact GH P.t.t.h P.a rfl rfl O)
  have HE:=Z S;have K:=Z Q;clear S Q HQ;try have S:=HE.o<|by decide
  go_wp2_with fail;apply qR<|J w4 P.a;intro w5 o;have ar:=Z<|P.b o;clear u q r t d g i F C D E X T U V y j G o;go_upto_region 27 with fail
  have o:=ar.c<|vO x;generalize w5.alloc (vO x)=w6 at*;generalize w5.heap.size=B at*;obtain⟨af,ac,ad,ae,-⟩:=rJ o.h;obtain⟨X,T,U,V,-⟩:=rJ o.t.h;obtain⟨F,C,D,E,-⟩:=rJ o.t.t.h;obtain⟨u,q,r,t,d,g,i⟩:=rJ o.t.t.t.h;obtain⟨y,j,-⟩:=Fe o.t.t.t.t.h;simp[iX,mg]at j;have Q:=Z o;clear o J;obtain⟨M,R,g3,g4,o⟩:=K.o;have hX:=HX.o M g4 g3 R;rw[<-o,HG]at hX;have J:=Z λh=>H h M;clear M R g3 g4 o K HX HG H;obtain⟨az,z⟩|⟨rfl,(⟨⟨ak,G⟩|⟨ak,G,k0,k1⟩,z⟩|⟨⟨G,k0|⟨k0,k1⟩⟩,z⟩)|⟨o,k0,k1,z⟩⟩:=hX;all_goals try replace G:=G<|by decide
  all_goals
   first
    |omega
    | (clear o
       simp only[Nat.reduceLeDiff,if_true,if_false]at z
       first
        | (have H:=Z (J (by decide) rfl)
           generalize dd _ a.n x.n=oo at*;obtain⟨ox,oy,oz,aD,o⟩:=Bu oo;rw[o]at H z;simp[iX,mg]at H;have O:=Z z;clear o z J;go_wp2_with fail;apply qR<|Jc a x w6;intro w7 K;have o:=Q.b K;generalize fy a x=oc at*;clear u q r t d g i F C D E X T U V af ac ad ae y j;obtain⟨af,ac,ad,ae,-⟩:=rJ o.h;obtain⟨F,C,D,E,-⟩:=rJ o.t.t.h;obtain⟨u,q,r,t,d,g,i⟩:=rJ o.t.t.t.h;obtain⟨y,j,-⟩:=Fe o.t.t.t.t.h;simp[iX,mg]at j;have R:=Z o;clear K o;go_upto_region 49 with fail
           have an:=Z<|Uu H R.t.t.t.h R.a
           go_region_law (refine eN rfl (.tmp 202) (.tmp 204) (.tmp 206) rfl It rfl rfl rfl an ?_
                          rintro v8 w8⟨rfl,ab,M⟩;obtain⟨aK,aE,aF,aG,aH,aI,aJ⟩:=rJ ab;have au:=Z ab;have am:=Z M
                          clear ab M)
           all_goals go_wp2_with fail
           all_goals exact GH au am rfl rfl O)
        | (have HOr:=Z (λW=>Jc a x W)
           generalize fy a x=oc at*;have ag:=Z<|ah oc;have O:=Z z;simp only[lU,VG,reduceIte,Nat.reduceEqDiff]at ag O;clear z J;go_wp2_with fail;apply qR<|HOr w6;intro w7 K;have o:=Q.b K;clear u q r t d g i F C D E X T U V af ac ad ae y j K HOr;obtain⟨u,q,r,t,d,g,i⟩:=rJ o.t.t.t.h;obtain⟨y,j,-⟩:=Fe o.t.t.t.t.h;simp[iX,mg]at j;have R:=Z o;clear o;go_wp2_with fail;apply qR<|ag w7;intro w8 M;simp only[oK];have o:=R.b M;clear u q r t d g i y j;obtain⟨u,q,r,t,d,g,i⟩:=rJ o.t.t.t.h;have j:=Z o;clear M o;go_wp2
           exact GH j.t.t.t.h j.a rfl rfl O))
    | (have O:=Z z
       clear z;go_wp2
       exact GH Q.t.t.t.h Q.a rfl rfl O)
def SS{p:k_}(c:¬p.op<=5)(h:bD F (.node n k p R S)=.ok M):∃a b,bD F R=.ok a/\bD F S=.ok b/\fm p.op a b=.ok M:=by
 unfold bD at h;rw[VF<|by omega,VF<|by omega]at h;cases hl:bD F R with
 |error e=>rw[hl]at h;cases h
 |ok a=>
  rw[hl]at h;simp only at h;rw[VF c]at h;cases hr:bD F S with
  |error e=>rw[hr]at h;cases h
  |ok b=>rw[hr]at h;exact⟨a,b,rfl,rfl,h⟩
def SR{p:k_}(c:2<=p.op)(b:p.op<=5)(h:bD F (.node n k p R S)=.ok M):∃a,bD F R=.ok a/\fm p.op a a=.ok M:=by
 unfold bD at h;rw[VF<|by omega,VF<|by omega]at h;cases hl:bD F R with
 |error e=>rw[hl]at h;cases h
 |ok a=>
  rw[hl]at h;simp only at h;rw[VG b]at h;exact⟨a,rfl,h⟩
def Qa{x y:ai}(d:cX a x)(e:cX M y)(b:dt a M=true)(n:x.c=false)(o:y.c=false):∃j,cX j x/\cX j y:=by
 have g:x.aC≠0:=by simpa[ai.c]using n
 have i:y.aC≠0:=by simpa[ai.c]using o
 have k:x.aC=a:=d.resolve_left g;have l:y.aC=M:=e.resolve_left i;unfold dt at b;have c:a=M:=by
  simp at b;obtain(h|h)|h:=b
  .exact h
  .exact absurd (k.trans h) g
  exact absurd (l.trans h) i
 exact⟨a,d,by rw[c];exact e⟩
def Gs{x:ai}(b:cX a x)(h:dt a 3=true):cX 3 x:=by
 unfold dt at h;simp at h;obtain h|h:=h
 .rw[<-h];exact b
 subst h;obtain h|h:=b
 .exact .inl h
 exact .inl h
def B5(g:List<|ah×ai)(u:g.length<=1000)(d:gY<|g.map (·.2))(k:BG (g.map (·.1))<|g.map (·.2)):∀(t:aA)(L:Int)(v K:Zb)(w:Za)(rb:Nat),ib t->gI t->dX t->bD (g.map (·.1)) t=.ok L->bz w rb t K->br w w.heap.size 6 tJ g v->Pc (bZ (g.map (·.1)) (g.map (·.2)) t) v K w
 |.nil,L,v,K,w,rb,hw,_,_,_,_,_=>absurd hw<|by simp[ib]
 |.node ta tb p l r,L,v,K,w,rb,hw,hk,hs,hc,ht,hv=>by
  intro W U;replace ht:=ht.below U;replace hv:=hv.below U;obtain⟨M,aa,R,Q⟩:=hw;obtain⟨_,j,o⟩:=hk;obtain⟨ab,I,P⟩:=hs;obtain⟨n,vl,vr,rfl,E,O,V⟩:=ht.l;have q:∃a l c,v=.slice a l c:=by obtain⟨a,c,rfl⟩:=hv.slice;exact⟨_,_,_,rfl⟩
  by_cases D:p.op=0
  .rw[D]at E;refine(O0 v E q).mono λe b h=>?_;unfold bZ;rw[VG D];exact h
  by_cases F:p.op=1
  .rw[F]at E;unfold bD at hc;rw[VF D,VG F]at hc;cases b:eE (g.map (·.1)) p.src p.name with
   |none=>rw[b]at hc;cases hc
   |some i=>
    refine(Mj u E hv b).mono λe x h=>?_;unfold bZ mq;rw[VF D,VG F,b];exact h
  have i:=Q (by omega);obtain⟨al,rfl⟩:=O.ptr i;by_cases G:p.op<=5
  .obtain⟨a,b,_⟩:=SR (by omega) G hc;have y:=B5 g u d k l a v _ W rb i j I b O hv;refine(O1 (by omega) G (λx A=>jN _ d j A) (λe z=>by have:=jc z;omega) E y q).mono λe B h=>?_;unfold bZ;rw[VF D,VF F];unfold qD at h;cases hq:bZ (g.map (·.1)) (g.map (·.2)) l with
   |error e2=>rw[hq]at h;exact h
   |ok x=>rw[hq]at h;simp only at h ⊢;rw[VG G];exact h
  have z:=R (by omega);obtain⟨X,rfl⟩:=V.ptr z;obtain⟨a,b,B,C,H⟩:=SS G hc;obtain⟨_,S,T,Y⟩:=yi H
  refine (O3 (by omega) M (λx A=>jN _ d j A) (λe N=>by have:=jc N;omega) (λx A=>jN _ d o A) (λe N=>by have:=jc N;omega)
   (λ_ _ x y A J m1 m2=>by
    obtain⟨L,t1,t2⟩:=Qa (jG d k i j B A) (jG d k z o C J) Y m1 m2
    exact uE (jN _ d j A) (jN _ d o J) t1 t2)
   (λZ=>by
    have h3:cD p.op=3:=by rw[cD,VG<|by omega]
    rw[h3]at S T
    exact⟨λx A=>Gs (jG d k i j B A) S,λy J=>Gs (jG d k z o C J) T⟩)
   n al X _ _ _ _ _ v W E (B5 g u d k l a v _ W rb i j I B O hv) (B5 g u d k r b v _ W rb z o P C V hv) q).mono λe w' h=>?_
  unfold bZ;rw[VF D,VF F];unfold u_ at h;cases hq:bZ (g.map (·.1)) (g.map (·.2)) l with
  |error e2=>rw[hq]at h;exact h
  |ok x=>
   rw[hq]at h;simp only at h ⊢;rw[VF G];exact h
def kT(lo:Nat)(w:Za)(M:Y7)(b:Nat)(o:aI×iW)(e:Ending)(w':Za):Prop:=
 e=.returned (.tuple #[qI o.2.count,qI (o.2.err:Nat)])/\∃M' lay',ei lo w M b o.1 w' M' lay'
def pI{d:Y_}:(Zi 79 d).run prog w=.ok (.enter 79 d) w:=by
 have g:(f79.name == "runtime.NumGoroutine")=false:=by kernel_rfl
 have c: f79.body.isNone=false:=by kernel_rfl
 have a:¬f79.name = "runtime.NumGoroutine":=by simpa using g
 have b:¬f79.body=none:=by intro e;rw[e]at c;cases c
 simp[Zi,go_sem,func79,a,b]
def Dt(w:Za):br w w.heap.size 6 tJ [] qN:=⟨none,0,rfl,λh=>absurd rfl h⟩
def SZ(d:ib R)(b:gI R)(k:dX R)(g:0<=M/\M<=3)(c:bz w n R u):
 Zc prog 79 #[u,qN,qI M] w (qF (qI ((aT [] R M).getD 0:Nat)) w):=by
 have h:=KL [] (by simp) (by simp) R qN u w n d b k c (Dt w) w qW;obtain⟨a,rfl⟩:=c.ptr d;rw[<-DD];exact OZ [] g (λa i=>pV (by simp) b i) (λe j=>fB j) h ⟨_,_,_,rfl⟩ ⟨_,rfl⟩
def S7(h:ib R)(c:gI R)(d:dX R)(b:bD [] R=.ok a)(e:bz w n R u):Pc (bZ [] [] R) qN u w:=
 B5 [] (by simp) (λv g=>by cases g) (λi=>by left;simp[aE]) R a _ u w n h c d b e (Dt w)
def JF{ts:Y6}{ws:List Int}{i:Nat}(b:ts[i]?=some R)(c:ws[i]?=some a):eI (ts.drop i) (ws.drop i)=match aT [] R a with
 |some e=>some e
 |none=>eI (ts.drop<|i+1)<|ws.drop<|i+1:=by
 have hi:=bw b;have d:=bw c;rw[VJ hi,VJ d];rw[VE hi]at b;rw[VE d]at c;cases b;cases c;rfl
def PY(lo:Nat)(s:aX)(hs:eL s)(hk:s.aC=105){b:List (aA×Zb)}(Q:b.map (·.1)=s.c.map (·.aW))(aN:∀p∈b,dX p.1){u0 u3 u4 u5 u6 u7 u8 u9:Zb}{az:Zn}(h:jE w G j az K)(aK:lo<=w.heap.size)
 (hn:w.heap[n]?=some (.cells #[u0,qT s.table,z,u3,u4,u5,u6,u7,u8,u9] 111))(ht:Hz w w.heap.size b z)(rb:Nat)(aO:∀p∈b,bz w rb p.1 p.2):
 Zc prog 49 #[qP j,qP n] w (kT lo w G j<|dI K s):=by
 have HS:=Z hs;have n1:=bC hn;have HF:=Z<|Db s.table h;have HN:=Z hn;have HT:=Z ht;have U:=Z aO;have HX:=Z h;have C:=Z Q;have aq:b.length<=1000:=by have:=Wd List.length Q;simp at this;have:=hs.len;omega
 have af:Ze (∀p∈b,cY p.1/\dX p.1):=λp hp=>by
  have:p.1∈s.c.map (·.aW):=by rw[<-Q];exact V0 hp
  obtain⟨g,d,a⟩:=VV.1 this;rw[<-a];exact⟨hs.c (by omega) g d,by rw[a];exact aN p hp⟩
 have aV:=Z (show b.length=s.c.length by have:=Wd List.length Q;simpa using this);generalize aH:dI K s=out;have t:=Z aH;have B:Ze (∀D J,out=(K,di D)->qB w J->kT lo w G j out (.returned<|.tuple #[qI 0,qI (D:Nat)]) J):=λD J ho hb=>by rw[ho];exact⟨rfl,G,az,ei.below h hb⟩
 have am:Ze (∀J M' I D' (c:Int),out=(D',⟨[],c,0⟩)->ei lo w G j D' J M' I->kT lo w G j out (.returned<|.tuple #[qI c,qI 0]) J):=λJ M' I D' c ho ab=>by rw[ho];exact⟨rfl,M',I,ab⟩
 generalize kT lo w G j out=aW at*;obtain⟨ia,ic,rfl,_⟩:=ht;cases hta:bO K s.table with
 |none=>
  rw[hta]at HF;have a:=Z<|B 2 w (by rw[<-t];exact sw hta) qW;simp only[iA]at HF;go_in;go_wp2_with fail;apply qS HF;go_wp2;exact a
 |some i=>
  obtain⟨l,(HL:Ze _),(ai:Ze _),av⟩:=HX.d<|cx hta;rw[hta,av]at HF;have hT:=HX.c i l _ HL ai;have S:=HX.ok.2 _<|dS<|cx hta;have T:=Z hta;obtain⟨cv,(N:Ze _),⟨a6,(ad:Ze _),(aE:Ze _)⟩,_⟩:=hT.g;have l1:=bC N;have ar:=lB N;have a9:=S.b;have aj:=Z hT;have ae:=Z S;obtain⟨ca,cc,rfl,ao⟩:=cz ad;generalize aJ:(ak K i).a=o at*;have L:=Z aJ;go_in;go_wp2_with refine HF.mono ?_;rintro e w1⟨rfl,rfl⟩;go_upto_region 4 with fail
  go_cut [29] (λaU wx=>∃q:Nat,aU=.bool ((o.length:Int) != (b.length:Int))/\wx=w1.drewN q)
  case first=>
   go_quiet (fail)
   all_goals go_wp2_with fail
   all_goals go_meet
   all_goals exact⟨_,rfl,rfl⟩
  obtain⟨q,rfl,rfl⟩:=hcut;have X:qB w1<|w1.drewN q:=below_drewN qW q;generalize w1.drewN q=w2 at*;by_cases O:b.length=o.length
  .have a:((o.length:Int) != (b.length:Int))=false:=by simp;omega
   rw[a];have A:=Z O;have aC:=Z X;have al:Ze<|l8 (b.map (·.1)) o=eI (b.map (·.1)) (o.map (·.2)):=by unfold Ze l8;rw[VF<|by simp[O]]
   clear a O X;go_wp2
   go_loopw [7] (λa wr=>∃k:Nat,k<=b.length/\a=qI k/\Ze (qB w1 wr/\eI (b.map (·.1)) (o.map (·.2))=eI ((b.map (·.1)).drop k) ((o.map (·.2)).drop k))) (λa _=>b.length-(Zk a).toNat)
   exact⟨0,qO,rfl,aC,by simp⟩;obtain⟨k,bb,rfl,HI⟩:=hrel;have d:=HI.1;have ac:=d.size;have aa:=bB d (lB hn) HN;have i1:=bC aa;have a3:=lB aa;have Y:=bB d ar N;have j1:=bC Y;have a1:=lB Y;by_cases y:k<b.length
   ·have R:b[k]?=some b[k]:=VE y;have H:o[k]?=some (o[k]'(by rw[<-A];exact y)):=VE _;have r:=VQ y;have M:o[k]'(by rw[<-A];exact y)∈o:=VQ _;generalize o[k]'(by rw[<-A];exact y)=c at*;generalize b[k]=p at*;obtain⟨pt,pv⟩:=p;obtain⟨g,_,he,_,aY,e0⟩:=dA (aB d ad) (aE k c H).2;cases he;obtain⟨_,_,V,h2⟩:=HT.below d;cases V;obtain⟨gi,rfl,ba,h3⟩:=h2 (by rintro rfl;simp at y);have e1:=h3 k _ R;simp only at e1;obtain⟨u,E⟩:=af.o _ r;simp only at u E;obtain⟨pa,rfl⟩:=(U _ r).ptr u.1;have P:0<=c.2/\c.2<=3:=by
     have:=(ae.a c<|L▸M).1;omega
    have x:=Z<|JF (i:=k) (ts:=b.map (·.1)) (ws:=o.map (·.2)) (by rw[VO,R];rfl) (by rw[VO,H];rfl);have F:=Z λW (hb:qB wr W)=>SZ u.1 u.2.1 E P<|((U _ r).below d).below hb;have bd:(k:Int)<(b.length:Int):=by omega
    have bc:(k:Int)<(o.length:Int):=by have:=A.o;omega
    have a5:=Z u;clear d aa Y h2 h3 u E r M P;go_upto_region 9 with fail
    generalize P:aT [] pt c.2=Y at*;have M:=Z P
    go_cut [8]from 30 to 58 (λs8 wx=>s8=qI ((Y.getD 0:Nat):Int)/\Ze (qB wr wx))
    case first=>
     have r:Ze (Zc prog 79 #[.pointer<|some pa,qN,qI c.2] wr.drew λe J=>∃v,e=.returned v/\(v=qI ((Y.getD 0:Nat):Int)/\qB wr J)):=by apply qR<|F wr.drew<|qW.drew;intro J hb;exact⟨_,rfl,rfl,qW.drew.trans hb⟩
     go_region_law (refine eN rfl (.tmp 46) (.const qN) (.tmp 54) rfl pI rfl rfl rfl r ?_
                    rintro E w8⟨rfl,(u:Ze _)⟩
                    skip)
     all_goals go_wp2_with fail
     all_goals go_meet
     all_goals exact⟨rfl,u⟩
    obtain⟨rfl,u⟩:=hcut;have r:=Z<|HI.1.trans<|u.mono ac;cases hoe2:Y with
    |some D=>
     have E:D=2\/D=3:=fu<|M.trans hoe2;have a_:((D:Int) != 0)=true:=by simp;omega
     have HE:=Z (B D wc (by
      rw[<-t];refine qi T ?_
      rw[<-C,L,al,HI.2,x,hoe2]) r)
     simp only[W8];go_wp2;exact HE
    |none=>
     have E:Ze<|eI (b.map (·.1)) (o.map (·.2))=eI ((b.map (·.1)).drop<|k+1) ((o.map (·.2)).drop<|k+1):=by unfold Ze;rw[HI.2,x,hoe2]
     simp only[W7];go_wp2;go_roundw;exact⟨k+1,by omega,by go_num,r,E⟩;simp[Zk];omega
   obtain rfl:k=b.length:=by omega
   have aQ:l8 (b.map (·.1)) o=none:=by rw[al,HI.2,Wt<|by simp,Wt<|by simp[A.o]];rfl
   obtain⟨e1,e2,(M:Ze _)⟩:=yV T (by rw[<-C,L];exact aQ)
   have HR:=Z (Ac [] [] qN (HT.below d) (λp hp=>by
    obtain⟨W,aw⟩:=af.o p hp;have hm:p.1∈s.c.map (·.aW):=by rw[<-C];exact V0 hp
    obtain⟨ty,aP⟩:=vK (by simpa using e1) e2 _ hm;have ax:=(U p hp).below d;obtain⟨pa,aM⟩:=ax.ptr W.1
    exact⟨S7 W.1 W.2.1 aw aP ax,⟨_,aM⟩⟩) ⟨_,_,_,rfl⟩ aq)
   rw[C]at HR;have aD:=Z d;go_wp2_with refine HR.mono ?_;rintro e w3⟨an,aL⟩;have r:=Z<|aD.trans<|an.mono ac;have be:=an.size;obtain⟨D,g,rfl⟩|⟨row,u,g,rfl,hu⟩:=aL
   .have E:((D:Int) != 0)=true:=by have:=kF g;simp;omega
    have x:=Z<|B D w3 (by rw[<-t,M,g]) r;go_wp2;exact x
   obtain⟨ra,rc,P,ao⟩:=cz aj.rows;have R:=bB r ar N;have m2:=bC R 2;simp at m2;rw[P]at m2;have aZ:=lB R;obtain⟨ua,un,uc,rfl⟩:=aF hu;by_cases V:(ak K i).rows.length=25
   .have x:=Z<|B 6 w3 (by rw[<-t,M,g];simp only;rw[VG V]) r;have E:((((ak K i).rows.length:Nat):Int)==25)=true:=by simp;omega
    go_wp2;exact x
   have a8:((((ak K i).rows.length:Nat):Int)==25)=false:=by simp;omega
   have a4:=ae.d;have F:=aB r aj.rows;rw[P]at F;obtain⟨i0,hi,aR,aS,ay⟩:=V5 iN;have ag:Ze<|ec<|cm K i<|(ak K i).rows++[row]:=by unfold Ze;have:=nW HS HX.ok;unfold d_ at this;rw[VF<|by omega,VG hk,M,g]at this;simp only at this;rw[VF V]at this;exact this
   have ah:Ze<|out=(cm K i<|(ak K i).rows++[row],⟨[],1,0⟩):=by rw[Ze,<-t,M,g];simp only;rw[VF V]
   go_wp2_with (at_builtin;refine Wv _ rfl (.tmp 80) (.tmp 82) 29 rfl 0 32 i0 _ 1 24 underlying29 hi aR aS ay rfl (by decide) _ _ _ rfl (F.alloc _) ⟨w3.heap.size,0,none⟩ 1 1 [.slice ua un uc] rfl rfl ?c1 ?c2 ?c3 ?c4 ?c5 ?_)
   case c1=>exact cW w3 [.slice ua un uc] 32
   case c2=>intro x hx;simp at hx;subst hx;rfl
   case c3=>unfold maxLen;omega
   case c4=>omega
   case c5=>simp
   intro v' w4 H ap a2 au;rw[<-P]at ap au;obtain⟨⟨a7,E⟩,ab⟩:=LW HX HL ai (w3:=w3.alloc<|.cells #[.slice ua un uc] 32) (r.alloc (by omega) _) ((Z<|bU hu ac).alloc _) H ap (by simpa using au) ag.o;have aG:=Z ab;have q2:=bC E 2;have qf:=bF E 2;simp at q2;rw[P]at q2;have a0:=lB E;obtain⟨xa,xn,xc,rfl⟩:=aF H;go_wp2;exact am _ _ _ _ 1 ah<|aG.low aK
  have d:((o.length:Int) != (b.length:Int))=true:=by simp;omega
  rw[d]
  have a:=Z (B 3 w2 (by
   rw[<-t];refine qi T ?_;unfold l8
   rw[<-C,L,VG<|by simpa using O]) X)
  go_wp2;exact a
def rC(a:YX):∀(l:List YX)(x:YX),dG a (l++[x])=if l=[]then x else dG a l++a++x
 |[],x=>rfl
 |[y],x=>by simp[dG]
 |y::z::r,x=>by have:=rC a (z::r) x;simp only[WU]at this ⊢;rw[dG,this];simp[dG]
def ej(head:YX)(xs:List YX)(k:Nat):YX:=head++dG [44,32] (xs.take k)
def wI(a:YX)(b:List YX):ej a b 0=a:=by simp[ej,dG]
def yU{a:List YX}(h:a[0]?=some Y):ej X a 1=ej X a 0++Y:=by unfold ej;rw[V9,h];simp[dG]
def wH{a:List YX}(d:0<k)(h:a[k]?=some Y):ej X a (k+1)=ej X a k++[44,32]++Y:=by
 unfold ej;rw[V9,h];have b:a.take k≠[]:=by intro e;have c:=Wd List.length e;have:=(VZ.1 h).1;rw[Wl]at c;simp only[WR]at c;omega
 rw[XV,rC,VF b];simp
def yT{head:YX}{xs:List YX}(d:head.length<=100)(b:∀x∈xs,x.length<=100)(e:xs.length<=5)(k:Nat):(ej head xs k).length<=700:=by unfold ej;have:=kC (m:=100) (xs.take k) λx a=>b x<|Wr a;simp only[VH,Wl]at this ⊢;have c:min k xs.length*(100+2)<=5*102:=YK (by omega) (by omega);omega
def je(name:YX):YX:=[67,82,69,65,84,69,32,84,65,66,76,69,32]++name++[32,40]
def iM(name:YX):YX:=[73,78,83,69,82,84,32,73,78,84,79,32]++name++[32,86,65,76,85,69,83,32,40]
def zL(t:bV):eG t=ej (je t.name) (t.a.map bM) t.a.length++[41,10]:=by unfold eG ej eD je;rw[VX<|by simp];simp
def BF(a:YX)(r:YW):dC a r=ej (iM a) (r.map aS) r.length++[41,10]:=by unfold dC ej eD iM;rw[VX<|by simp];simp
def C0(a b c:YX):((({data:=a.toArray}:Y9)++{data:=b.toArray})++{data:=c.toArray})=⟨(a++b++c).toArray⟩:=by rw[jZ,jZ]
def tQ.c{l:Lay}{t:bV}(h:tQ w G l t){m:Nat}(r:t.rows[m]?=some I):∃g d u c n,l.a=qL g t.rows.length d/\g<w.heap.size/\w.cell? ⟨g,m,none⟩=some u/\u=.slice c I.length n/\∀(k:Nat)(v:ai),I[k]?=some v->∃q,c=some ⟨q,0,none⟩/\q<w.heap.size/\w.cell? ⟨q,k*3,none⟩=some (qI v.aC)/\w.cell? ⟨q,k*3+1,none⟩=some (qI v.n)/\w.cell? ⟨q,k*3+2,none⟩=some (qT v.s):=by
 have p:l.us.length=t.rows.length:=by have:=h.rows.1;omega
 have J:=bw r;have y:l.us[m]?=some (l.us[m]'(by omega)):=VE _;generalize l.us[m]'(by omega)=u at*;obtain⟨g,d,e,_,H,F⟩:=dA h.rows y;obtain⟨a,_⟩:=h.each m I u r y;obtain⟨c,n,rfl,_⟩:=cz a;refine⟨g,d,_,c,n,e,H,F,rfl,λk v i=>?_⟩;have b:∀j x,(vC v)[j]?=some x->(c_ I)[k*3+j]?=some x:=by
  intro j x o;have hk:=bw i;have C:c_ I=c_ (I.take k)++(vC v++c_ (I.drop<|k+1)):=by
   have D:I=I.take k++([v]++I.drop (k+1)):=by have:=VJ hk;rw[VE hk]at i;cases i;rw[List.singleton_append,<-this,WA]
   conv=>lhs;rw[D]
   rw[pS,pS,xE]
  have E:(c_<|I.take k).length=k*3:=by rw[kB,Wl];congr 1;omega
  rw[C,VW<|by omega,E,show k*3+j-k*3=j by omega,VU<|bw o];exact o
 obtain⟨q,_,z,_,K,c0⟩:=dA a<|b 0 _ rfl;obtain⟨L,_,A,_,_,c1⟩:=dA a<|b 1 _ rfl;obtain⟨M,_,B,_,_,c2⟩:=dA a<|b 2 _ rfl;cases z;cases A;cases B;exact⟨q,rfl,K,c0,c1,c2⟩
def UA{F:Zn}(h:jE w G n F K):
 Zc prog 56 #[.pointer<|some ⟨n,0,none⟩] w λe w'=>e=.returned (.string ⟨(xG K).toArray⟩)/\Zd w.heap.size w w':=by
 obtain⟨ta,tc,V,aG⟩:=h.slice;have hb:=lB V;have HA:=Z aG;have T:=Z h;have al:=Z V;have hD:K.length<=6:=h.ok.1;generalize ho:xG K=out;have HO:=Z ho;have ar:=Z λi=>zw h.ok i;go_in;go_wp2
 go_loopw [3,4] (λs3 s4 wr=>∃i:Nat,i<=K.length/\s3=.string ⟨(((K.take i).map dH).flatten).toArray⟩/\s4=.int .i64 (i:Nat)/\Ze (Zd w.heap.size w wr)) (λ_ s4 _=>K.length-(Zk s4).toNat)
 exact⟨0,Wi _,by simp,rfl,VM _ _⟩
 case round=>
  obtain⟨i,hi,rfl,rfl,HB⟩:=hrel;have B:=HB.o;have L:=bB B hb al;have c0:=bC L 0;simp at c0;have a3:=lB L;have bg:=ar.o i;by_cases E:i<K.length
  ·have X:K[i]?=some K[i]:=VE E;have Y:F[i]?=some (F[i]'(T.len▸E)):=VE _;have aC:Ze<|((K.take<|i+1).map dH).flatten=((K.take i).map dH).flatten++dH K[i]:=by
    unfold Ze;rw[V9,X,Wc,XO];simp
   have b:=Z<|T.ok.2 _<|VQ E;generalize F[i]'(T.len▸E)=l at*;generalize K[i]=t at*;generalize ((K.take i).map dH).flatten=d at*;obtain⟨g,rfl,hg,e0⟩:=HA.o i l Y;have a7:=VT hg B.size;have aE:=(B.cell (p:=⟨g,i,none⟩) hg).trans e0;unfold gC at aE;have HT:=Z<|T.c i l t Y X;have hT:=HT.o;obtain⟨cv,C,⟨aV,W,aN⟩,_⟩:=hT.g;have O:=Z C;have u:=lB C;have R:=Z W;have S:=Z aN;obtain⟨ca,cc,rfl,_⟩:=cz W;obtain⟨ra,rc,aO,_⟩:=cz hT.rows;have az:=Z aO;have I:=bB B u C;have n0:=bC I 0;simp at n0;have aQ:=lB I;have be:=b.name;have a5:=b.b;have bj:=b.d;obtain⟨w0,rfl⟩:∃w0:Za,w0=wr:=⟨_,rfl⟩;have ao:Ze<|({data:=#[67,82,69,65,84,69,32,84,65,66,76,69,32]}:Y9)++{data:=t.name.toArray}++{data:=#[32,40]}=⟨(ej (je t.name) (t.a.map bM) 0).toArray⟩:=by unfold Ze;rw[wI];exact C0 [67,82,69,65,84,69,32,84,65,66,76,69,32] t.name [32,40]
   have am:=Z λk=>yT (head:=je t.name) (xs:=t.a.map bM) (by simp[je];omega) (λx hx=>by obtain⟨c,hc,rfl⟩:=VV.1 hx;exact nU (b.a c hc).2) (by simp;omega) k;go_upto_region 7 with fail
   rw[ao];go_wp2
   go_loopw [6,7] (λs6 s7 wr=>∃k:Nat,k<=t.a.length/\s6=.string ⟨(ej (je t.name) (t.a.map bM) k).toArray⟩/\s7=.int .i64 (k:Nat)/\Ze (Zd w.heap.size w wr)) (λ_ s7 _=>t.a.length-(Zk s7).toNat)
   exact⟨0,Wi _,rfl,rfl,HB⟩;obtain⟨k,hk,rfl,rfl,A⟩:=hrel;have Q:=A.o;have q:=bB Q u O;have m1:=bC q 1;have m2:=bC q 2;have m0:=bC q 0;simp at m0 m1 m2;have aR:=lB q;have a4:=am.o k;by_cases z:k<t.a.length
   .have M:t.a[k]?=some t.a[k]:=VE z;have P:=b.a _<|VQ z;generalize t.a[k]=c at*;obtain⟨gc,_,he,_,a8,e1⟩:=dA (aB Q R) (S k c M).1;cases he;obtain⟨_,_,he,_,_,N⟩:=dA (aB Q R) (S k c M).2;cases he;have bb:((k:Nat):Int)<((t.a.length:Nat):Int):=by omega
    have af:(t.a.map bM)[k]?=some (bM c):=by rw[VO,M];rfl
    obtain⟨y,H,C⟩:∃y:YX,Ze (y=(if 0<k then ej (je t.name) (t.a.map bM) k++[44,32]else ej (je t.name) (t.a.map bM) k)/\ej (je t.name) (t.a.map bM) (k+1)=y++c.1++[32]++iy c.2)/\y.length<=800:=by
     refine⟨_,⟨rfl,?_⟩,?_⟩
     .split
      .rename_i h0;rw[wH h0 af];simp[bM]
      obtain rfl:k=0:=by omega
      rw[yU af];simp[bM]
     split
     .simp;omega
     omega
    generalize aP:ej (je t.name) (t.a.map bM) k=J at*;generalize U:ej (je t.name) (t.a.map bM) (k+1)=ah at*;have r:=Z U;have D:=Z<|jZ J [44,32];obtain⟨ad,bf⟩:=P;have aD:Ze<|ah=y++c.1++[32]++iy c.2:=H.2;have a:Ze (∀x:YX,x=iy c.2->(({data:=y.toArray}:Y9)++{data:=c.1.toArray})++{data:=#[32]}++{data:=x.toArray}=⟨ah.toArray⟩):=λx hx=>by rw[aD,hx];exact(Wd (·++(⟨_⟩:Y9))<|C0 y c.1 [32]).trans (jZ _ _)
    have j:Ze (∀o,Zd w.heap.size w (wr.alloc o).drew):=λo=>(A.alloc A.size o).drew;by_cases h0:0<k
    .have aZ:(0:Int)<(k:Int):=by omega
     have aL:J++[44,32]=y:=by have:=H.1;rw[VG h0]at this;exact this.symm
     rw[aL]at D;go_upto_region 12 with fail
     rw[D];obtain h|h|h:=ad
     .rw[h]at N;have HF:=Z<|a [73,78,84] (by rw[h];rfl);go_region;all_goals go_wp2_with fail
      all_goals exact⟨⟨k+1,by omega,by rw[r];exact Wd Zb.string HF,by go_num,j _⟩,by simp[Zk];omega⟩
     .rw[h]at N;have HF:=Z<|a [84,69,88,84] (by rw[h];rfl);go_region;all_goals go_wp2_with fail
      all_goals exact⟨⟨k+1,by omega,by rw[r];exact Wd Zb.string HF,by go_num,j _⟩,by simp[Zk];omega⟩
     rw[h]at N;have HF:=Z<|a [66,79,79,76] (by rw[h];rfl);go_region;all_goals go_wp2_with fail
     all_goals exact⟨⟨k+1,by omega,by rw[r];exact Wd Zb.string HF,by go_num,j _⟩,by simp[Zk];omega⟩
    have a0:¬(0:Int)<(k:Int):=by omega
    have aM:J=y:=by have:=H.1;rw[VF h0]at this;exact this.symm
    subst aM;go_upto_region 12 with fail
    obtain h|h|h:=ad
    .rw[h]at N;have HF:=Z<|a [73,78,84] (by rw[h];rfl);go_region;all_goals go_wp2_with fail
     all_goals exact⟨⟨k+1,by omega,by rw[r];exact Wd Zb.string HF,by go_num,j _⟩,by simp[Zk];omega⟩
    .rw[h]at N;have HF:=Z<|a [84,69,88,84] (by rw[h];rfl);go_region;all_goals go_wp2_with fail
     all_goals exact⟨⟨k+1,by omega,by rw[r];exact Wd Zb.string HF,by go_num,j _⟩,by simp[Zk];omega⟩
    rw[h]at N;have HF:=Z<|a [66,79,79,76] (by rw[h];rfl);go_region;all_goals go_wp2_with fail
    all_goals exact⟨⟨k+1,by omega,by rw[r];exact Wd Zb.string HF,by go_num,j _⟩,by simp[Zk];omega⟩
   obtain rfl:k=t.a.length:=by omega
   have ai:Ze<|(({data:=d.toArray}:Y9)++{data:=(ej (je t.name) (t.a.map bM) t.a.length).toArray})++{data:=#[41,10]}=⟨(d++eG t).toArray⟩:=by unfold Ze;rw[zL];have:=C0 d (ej (je t.name) (t.a.map bM) t.a.length) [41,10];rw[this];simp
   have aq:=Z<|oQ b;have aw:=Z λj=>sW b j;go_upto_region 14 with fail
   rw[ai];go_wp2
   go_loopw [3,8] (λs3 s8 wr=>∃m:Nat,m<=t.rows.length/\s3=.string ⟨(d++eG t++((t.rows.take m).map<|dC t.name).flatten).toArray⟩/\s8=.int .i64 (m:Nat)/\Ze (Zd w.heap.size w wr)) (λ_ s8 _=>t.rows.length-(Zk s8).toNat)
   exact⟨0,Wi _,by simp,rfl,A⟩;obtain⟨m,hm,rfl,rfl,P⟩:=hrel;have aK:=P.o;have y:=bB aK u O;have p0:=bC y 0;have p2:=bC y 2;simp at p0 p2;rw[az]at p2;have aT:=lB y;have ba:=aq.o;have bi:=aw.o m;by_cases aa:m<t.rows.length
   ·have ab:t.rows[m]?=some t.rows[m]:=VE aa;have M:=oE b<|VQ aa;have ay:Ze<|((t.rows.take<|m+1).map<|dC t.name).flatten=((t.rows.take m).map<|dC t.name).flatten++dC t.name t.rows[m]:=by
     unfold Ze;rw[V9,ab,Wc,XO];simp
    generalize t.rows[m]=r at*;have bd:((m:Nat):Int)<((t.rows.length:Nat):Int):=by omega
    generalize ac:d++eG t++((t.rows.take m).map<|dC t.name).flatten=a at*;have bk:a.length<=230000:=by rw[<-ac];simp only[VH];omega
    have aA:=Z ac;have ap:Ze<|({data:=#[73,78,83,69,82,84,32,73,78,84,79,32]}:Y9)++{data:=t.name.toArray}++{data:=#[32,86,65,76,85,69,83,32,40]}=⟨(ej (iM t.name) (r.map aS) 0).toArray⟩:=by unfold Ze;rw[wI];exact C0 [73,78,83,69,82,84,32,73,78,84,79,32] t.name [32,86,65,76,85,69,83,32,40]
    have an:=Z λk=>yT (head:=iM t.name) (xs:=r.map aS) (by simp[iM];omega) (λx hx=>by obtain⟨c,hc,rfl⟩:=VV.1 hx;exact mh<|M.2 c hc) (by simp;omega) k;have H:=Z M;have ax:=Z ab;go_upto_region 18 with fail
    rw[ap];go_wp2
    go_loopw [6,9] (λs6 s9 wr=>∃k:Nat,k<=r.length/\s6=.string ⟨(ej (iM t.name) (r.map aS) k).toArray⟩/\s9=.int .i64 (k:Nat)/\Ze (Zd w.heap.size w wr)) (λ_ s9 _=>r.length-(Zk s9).toNat)
    exact⟨0,Wi _,rfl,rfl,P⟩;obtain⟨k,hk,rfl,rfl,o⟩:=hrel;have U:=o.o;have J:=bB U u O;have q2:=bC J 2;simp at q2;obtain⟨gr,aY,ur,xa,xc,aF,a_,d0,rfl,D⟩:=(HT.aL (w':=wr) (λk hm=>hm) λk hm=>U.block k<|T.lt k hm).c ax;rw[aF]at q2;have aU:=lB J;have a6:=an.o k;have bh:=H.1;by_cases z:k<r.length
    .have ae:r[k]?=some r[k]:=VE z;have N:=H.2 _<|VQ z;generalize r[k]=v at*;obtain⟨gq,rfl,a9,v0,v1,v2⟩:=D k v ae;have bc:((k:Nat):Int)<((r.length:Nat):Int):=by omega
     have ag:(r.map aS)[k]?=some (aS v):=by rw[VO,ae];rfl
     have bl:=mh N;have HC:=Z<|O8 v N wr;unfold oK at HC;by_cases h0:0<k
     .have a1:(0:Int)<(k:Int):=by omega
      have au:Ze<|({data:=(ej (iM t.name) (r.map aS) k).toArray}:Y9)++{data:=#[44,32]}++{data:=(aS v).toArray}=⟨(ej (iM t.name) (r.map aS)<|k+1).toArray⟩:=by unfold Ze;rw[wH h0 ag];exact C0 _ [44,32] _
      generalize ej (iM t.name) (r.map aS) k=aW at*;generalize aS v=vt at*;go_wp2_with fail;refine HC.mono ?_;rintro e w5⟨rfl,aH⟩;have aj:=Z<|o.trans<|aH.mono o.size;go_wp2;go_roundw;exact⟨k+1,by omega,Wd Zb.string au,by go_num,aj⟩;simp[Zk];omega
     have a2:¬(0:Int)<(k:Int):=by omega
     obtain rfl:k=0:=by omega
     have av:Ze<|({data:=(ej (iM t.name) (r.map aS) 0).toArray}:Y9)++{data:=(aS v).toArray}=⟨(ej (iM t.name) (r.map aS) 1).toArray⟩:=by unfold Ze;rw[yU ag];exact jZ _ _
     generalize ej (iM t.name) (r.map aS) 0=aX at*;generalize aS v=vt at*;go_wp2_with fail;refine HC.mono ?_;rintro e w5⟨rfl,aJ⟩;have ak:=Z<|o.trans<|aJ.mono o.size;go_wp2;go_roundw;exact⟨1,by omega,Wd Zb.string av,by go_num,ak⟩;simp[Zk];omega
    obtain rfl:k=r.length:=by omega
    have N:Ze<|(({data:=a.toArray}:Y9)++{data:=(ej (iM t.name) (r.map aS) r.length).toArray})++{data:=#[41,10]}=⟨(d++eG t++((t.rows.take<|m+1).map<|dC t.name).flatten).toArray⟩:=by unfold Ze;rw[ay,BF];have:=C0 a (ej (iM t.name) (r.map aS) r.length) [41,10];rw[this,<-aA];simp
    go_wp2;go_roundw;exact⟨m+1,by omega,Wd Zb.string N,by go_num,o⟩;simp[Zk];omega
   obtain rfl:m=t.rows.length:=by omega
   have a:Ze<|d++eG t++((t.rows.take t.rows.length).map<|dC t.name).flatten=((K.take<|i+1).map dH).flatten:=by unfold Ze;rw[aC,Wj,py];simp
   rw[a];go_wp2;go_roundw;exact⟨i+1,by omega,rfl,by go_num,P⟩;simp[Zk];omega
  obtain rfl:i=K.length:=by omega
  have a:Ze<|((K.take K.length).map dH).flatten=out:=by unfold Ze;rw[Wj,<-HO];rfl
  rw[a];go_wp2;go_ret;exact⟨rfl,HB⟩
