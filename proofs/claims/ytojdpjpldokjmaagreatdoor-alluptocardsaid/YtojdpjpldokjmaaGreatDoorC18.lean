import Derived.Test.YtojdpjpldokjmaaGreatDoorC15
import Derived.Test.YtojdpjpldokjmaaGreatDoorC11
set_option maxHeartbeats 0
set_option maxRecDepth 100000
set_option linter.all false
namespace Go.Proofs.YtojdpjpldokjmaaGreatDoor
open Go.Deep Go.RowKit Tryz
open Go renaming World->Za,Value->Zb,Calls->Zc
variable{W w x:World}{k n:Nat}{A B C u z:Value}{M a:Int}{X Y:YX}{F:YY}{R S:aA}
def qM(op:Nat)(a:ai)(o2:aV ai):aV ai:=match o2 with
 |.error e=>.error e
 |.ok b=>fH op a b
def u_(op:Nat)(o1 o2:aV ai):aV ai:=match o1 with
 |.error e=>.error e
 |.ok a=>@ite _ (17<=op/\a=bh (op==18)) (@instDecidableAnd _ _ _<|j3 a<|bh<|op==18) (.ok a)<|qM op a o2
def rJ{T:TypeId}(h:w.heap[k]?=some (.cells #[u,z,A] T)):k<w.heap.size/\w.cell? ⟨k,0,none⟩=some u/\w.cell? ⟨k,1,none⟩=some z/\w.cell? ⟨k,2,none⟩=some A/\w.frozen? ⟨k,0,none⟩=false/\w.frozen? ⟨k,1,none⟩=false/\w.frozen? ⟨k,2,none⟩=false:=by have a:=bC h 0;have b:=bC h 1;have c:=bC h 2;simp at a b c;exact⟨lB h,a,b,c,bF h 0,bF h 1,bF h 2⟩
def Fe{m:Int}{s:YX}(h:w.heap[k]?=some (rB n u z a m s X Y)):k<w.heap.size/\w.cell? ⟨k,0,none⟩=some (.string<|iX n)/\w.cell? ⟨k,2,none⟩=some z:=by have b:=bC h 0;have c:=bC h 2;simp at b c;exact⟨lB h,b,c⟩
def Bu(o:aV ai):∃(x y:Int)(z:Y9)(a:Int),lI o=.tuple #[.agg #[qI x,qI y,.string z],qI a]:=by
 cases o with
 |error e=>exact⟨_,_,_,_,rfl⟩
 |ok v=>exact⟨_,_,_,_,rfl⟩
def It{d:Y_}:(callFunc 193 d).run prog w=.ok (.enter 193 d) w:=by
 have g:(f193.name == "runtime.NumGoroutine")=false:=by kernel_rfl
 have c: f193.body.isNone=false:=by kernel_rfl
 have a:¬f193.name = "runtime.NumGoroutine":=by simpa using g
 have b:¬f193.body=none:=by intro e;rw[e]at c;cases c
 simp[callFunc,go_sem,func193,a,b]
def Uu{h:Y9}(j:∀W:Za,Zc prog 193 #[.string h,qI a,qI M] W<|qF u W)(g:x.heap[w.heap.size]?=some zG)(d:qB w x):Zc prog 193 #[.string h,qI a,qI M] x.drew λe c=>∃v,e=.returned v/\(v=u/\c.heap[w.heap.size]?=some zG/\qB w c):=by apply qR<|j x.drew;intro c i;have b:qB x c:=qW.drew.trans i;exact⟨_,rfl,rfl,bB b (lB g) g,d.trans<|b.mono d.size⟩
def Bv(o:aV ai)(h:∀e,o=.error e->e≠0):∃(x:ai)(a:Nat),lI o=.tuple #[.agg #[qI x.aC,qI x.n,qT x.s],qI (a:Nat)]/\((o=.error a/\a≠0)\/(o=.ok x/\a=0)):=by
 cases o with
 |error e=>exact⟨aE,e,rfl,.inl ⟨rfl,h e rfl⟩⟩
 |ok v=>exact⟨v,0,rfl,.inr ⟨rfl,rfl⟩⟩
def FZ{a b l:ai}(e:dv a)(i:dv b)(g:b≠l)(j:(a.c||b.c)=true):fM a b l=aE:=by
 have d:∀c:ai,dv c->c.c=true->c=aE:=λc o h=>by
  have hk:c.aC=0:=by simpa[ai.c]using h
  obtain h|h|h|h:=o
  .obtain⟨k,n,s⟩:=c;simp at h;obtain⟨rfl,rfl,rfl⟩:=h;rfl
  all_goals omega
 unfold fM;cases hb:b.c with
 |true=>rw[VG<|.inr rfl];exact d b i hb
 |false=>
  rw[VF λh=>h.elim g λh=>by cases h];exact d a e (by rw[hb]at j;simpa using j)
def FY{a b:ai}(t:Bool)(g:dv a)(j:dv b)(i:cX 3 a)(l:cX 3 b)(w:a≠bh t)(e:b≠bh t)(r:a.c=false)(q:b.c=false):fM a b (bh t)=b:=by
 have d:∀c:ai,dv c->cX 3 c->c.c=false->c≠bh t->c=bh (!t):=λc o x h d=>by
  have hk:c.aC≠0:=by simpa[ai.c]using h
  obtain⟨k,n,s⟩:=c;unfold cX at x;unfold dv at o;simp[bh]at*;have p:k=3:=by omega
  subst p;simp at o;obtain⟨u,rfl⟩:=o;cases t<;>obtain rfl|rfl:=u<;>simp_all
 unfold fM;rw[VF λh=>h.elim e (λh=>by rw[q]at h;cases h)];rw[d a g i r w,d b j l q e]
def Ma{a x:ai}{e:aV ai}(y:6<=n)(g:dv a)(w:(e=.error k/\k≠0)\/(e=.ok x/\k=0))(l:∀b,e=.ok b->dv b)(p:11<=n->n<=16->∀b,e=.ok b->a.c=false->b.c=false->fy a b=dz a b)
 (o:17<=n->cX 3 a/\∀b,e=.ok b->cX 3 b)(t:n<=18)(u:17<=n->a≠bh (n==18)):
 (((k:Int) != 0)=true/\lI (qM n a e)=.tuple #[.agg #[qI 0,qI 0,.string ⟨#[]⟩],qI (k:Nat)]) \/
 k=0/\(((17<=n/\Nf x.aC x.n ⟨x.s.toArray⟩ (bh<|n==18).aC (bh<|n==18).n ⟨(bh<|n==18).s.toArray⟩=true\/17<=n/\Nf x.aC x.n ⟨x.s.toArray⟩ (bh<|n==18).aC (bh<|n==18).n ⟨(bh<|n==18).s.toArray⟩=false/\(a.aC==0)=false/\(x.aC==0)=false)/\lI (qM n a e)=.tuple #[.agg #[qI x.aC,qI x.n,qT x.s],qI 0] \/
  ((17<=n->Nf x.aC x.n ⟨x.s.toArray⟩ (bh<|n==18).aC (bh<|n==18).n ⟨(bh<|n==18).s.toArray⟩=false)/\((a.aC==0)=true\/(a.aC==0)=false/\(x.aC==0)=true))/\lI (qM n a e)=.tuple #[.agg #[qI 0,qI 0,.string ⟨#[]⟩],qI 0]) \/
  n<=16/\(a.aC==0)=false/\(x.aC==0)=false/\lI (qM n a e)=lI (if n<=10 then dd n a.n x.n else .ok (bh<|lU n<|fy a x))):=by
 obtain⟨rfl,h⟩|⟨rfl,h⟩:=w
 .exact .inl ⟨by simp;omega,rfl⟩
 refine .inr ⟨h,?_⟩;rw[yW];simp only[qM];unfold fH;have j:∀v:ai,v.c=(v.aC==0):=λv=>rfl;have i:(a.c||x.c)=true->(a.aC==0)=true\/(a.aC==0)=false/\(x.aC==0)=true:=λh=>by
  rw[j,j]at h;cases d:(a.aC==0)with
  |true=>exact .inl rfl
  |false=>rw[d]at h;exact .inr ⟨rfl,by simpa using h⟩
 by_cases c:17<=n
 .rw[VG<|by omega];refine .inl ?_;by_cases d:x=bh (n==18)
  .refine .inl ⟨.inl ⟨c,ai.d d⟩,?_⟩;unfold fM;rw[VG<|.inl d];rfl
  have hs:=ai.l d;cases hm:(a.c||x.c)with
  |true=>exact .inr ⟨⟨λ_=>hs,i hm⟩,by rw[FZ g (l x rfl) d hm];rfl⟩
  |false=>
   obtain⟨q,r⟩:a.c=false/\x.c=false:=by simpa using hm
   exact .inl ⟨.inr ⟨c,hs,q,r⟩,by rw[FY _ g (l x rfl) (o c).1 ((o c).2 x rfl) (u c) d q r];rfl⟩
 .rw[VF<|by omega];cases hm:(a.c||x.c)with
  |true=>exact .inl<|.inr ⟨⟨λh=>absurd h c,i hm⟩,rfl⟩
  |false=>
   obtain⟨q,r⟩:a.c=false/\x.c=false:=by simpa using hm
   refine .inr ⟨by omega,q,r,?_⟩;rw[VF<|by simp];by_cases d:n<=10
   .rw[VG d,VG d]
   rw[VF d,VF d,p (by omega) (by omega) x rfl q r]
structure Fr(w0 w:Za)(l:List<|Nat×Obj):Prop where
 c:qB w0 w
 a:∀p∈l,w.heap[p.1]?=some p.2
def Fr.b{l:List (Nat×Obj)}(h:Fr W w l)(a:qB w x):Fr W x l:=⟨h.c.trans<|a.mono h.c.size,λp b=>bB a (lB<|h.a p b)<|h.a p b⟩
def Fr.d {l:List (Nat × Obj)}(h:Fr W w l)(o:Obj):Fr W (w.alloc o)<|(w.heap.size,o) :: l:=⟨h.c.alloc h.c.size o,λp a=>by
 obtain rfl|a:=V8.1 a
 .exact aM w o
 .exact bA (h.a p a) o⟩
def Fr.h{l:List (Nat×Obj)}{k:Nat}{o:Obj}(h:Fr W w<|(k,o)::l):w.heap[k]?=some o:=h.a _<|.head _
def Fr.t{l:List (Nat×Obj)}{p:Nat×Obj}(h:Fr W w<|p::l):Fr W w l:=⟨h.c,λq a=>h.a q<|.tail _ a⟩
abbrev vO(a:ai):Obj:=.cells #[qI a.aC,qI a.n,qT a.s] 34
def GH{x y b:Zb}{a:Y_}(h:W.heap[w.heap.size]?=some (.cells #[A,B,C] 34))(e:qB w W)(c:a[4]?=some (qP w.heap.size))(d:a[5]?=some b)(g:u=.tuple #[.agg #[x,y,z],b]):
 bodyPost prog f134 (qF u w) Exit.ret {tmps:=a,defers:=[]} (((W.setCell ⟨w.heap.size,0,none⟩ x).setCell ⟨w.heap.size,1,none⟩ y).setCell ⟨w.heap.size,2,none⟩ z):=Ut h c d ⟨Wd _ g.symm,((e.setCell qZ _).setCell qZ _).setCell qZ _⟩
def O1(A:2<=k)(B:k<=5){o:aV ai}(z:∀a,o=.ok a->dv a)(y:∀e,o=.error e->e≠0){F:Addr}{m:Int}{s:YX}{v:Zb}(q:w.heap[n]?=some (rB k (.pointer<|some F) u M m s X Y))(j:Pc o v (.pointer<|some F) w)(P:∃a l c,v=.slice a l c):
 Zc prog 134 #[.pointer<|some ⟨n,0,none⟩,v] w λe T=>e=.returned (lI<|qD k o)/\Below w.heap.size w T:=by
 obtain⟨va,vn,vc,rfl⟩:=P;obtain⟨a,G,d,i⟩:=Bv o y;have t:Fr w w [(n,rB k (.pointer<|some F) u M m s X Y)]:=⟨VM _ _,λp J=>by simp at J;subst J;exact q⟩;unfold Pc at j;simp only[d]at j;have x:=Z<|j _ (t.d zG).c;have D:=Z<|t.d zG;obtain⟨O,g,Q⟩:=Fe q;have b:=bC q 1;simp at b;have r:Hid<|((((G:Nat):Int) != 0)=true/\lI (qD k o)=.tuple #[.agg #[.int .i64 0,.int .i64 0,.string ⟨#[]⟩],.int .i64 (G:Nat)])\/(G=0/\dv a/\lI (qD k o)=lI (il k a)):=by
  rcases i with⟨rfl,h⟩|⟨rfl,h⟩
  .exact .inl ⟨by simp;omega,rfl⟩
  exact .inr ⟨h,z a rfl,rfl⟩
 generalize lI (qD k o)=OO at*;clear j q z y i d t;obtain rfl|rfl|rfl|rfl:k=2\/k=3\/k=4\/k=5:=by omega
 all_goals
  clear A B;simp[iX,mg]at g;go_in;go_wp2_with fail;apply(U x).mono;rintro e K⟨rfl,d⟩;have E:=Z<|D.o.b d;clear x g b d;go_upto_region 8 with fail
  have d:=E.o.d<|vO a;generalize K.alloc (vO a)=L at*;generalize K.heap.size=A at*;obtain⟨ac,V,aa,ab,-⟩:=rJ d.h;obtain⟨B,x,y,z,i,j,q⟩:=rJ d.t.h;obtain⟨ae,H,ad⟩:=Fe d.t.t.h;simp[iX,mg]at H;have b:=Z d;clear d;rcases r.o with⟨N,g⟩|⟨rfl,t,g⟩
  .have C:=Z g;clear g r;go_wp2_with fail;exact GH b.o.t.h b.o.c rfl rfl C.o
  have d:=Z λW=>Ds 0 a.n W (by unfold bK;omega) t.range;rw[Int.zero_sub]at d;have I:(a.aC != 0)=!(a.aC==0):=rfl;clear t r;cases hm:(a.aC==0)<;>cases hn0:(a.n==0);all_goals
   have t:a.c=_:=hm;rw[hm]at I;simp only[il,mB,oq,t,hn0]at g;simp only[Bool.not_true,Bool.not_false]at I;simp at g;generalize fe (-a.n)=S at*;obtain⟨ox,oy,oz,R,r⟩:=Bu S;rw[r]at d;try rw[r]at g
   have C:=Z g;clear g r;go_wp2_with fail
   first
    |exact GH b.o.t.h b.o.c rfl rfl C.o
    | ((first|refine((U d) L).mono ?_|apply(JJ _ L).mono)
       rintro e w3⟨rfl,r⟩;have g:=b.o.b r;clear B x y z i j q r d;obtain⟨B,x,y,z,i,j,q⟩:=rJ g.t.h;have d:=Z g;clear g;try simp only[oK,bh,if_true]
       go_wp2_with fail
       exact GH d.o.t.h d.o.c rfl rfl C.o)
def O3(G:6<=k)(q:k<=18){N I:aV ai}(u:∀a,N=.ok a->dv a)(r:∀e,N=.error e->e≠0)(j:∀b,I=.ok b->dv b)(t:∀e,I=.error e->e≠0)
 (g:11<=k->k<=16->∀a b,N=.ok a->I=.ok b->a.c=false->b.c=false->fy a b=dz a b)(d:17<=k->(∀a,N=.ok a->cX 3 a)/\∀b,I=.ok b->cX 3 b)
 (n:Nat)(av aw:Addr)(kd m:Int)(s al Y:YX)(v:Zb)(w:Za)(E:w.heap[n]?=some (rB k (.pointer<|some av) (.pointer<|some aw) kd m s al Y))(D:Pc N v (.pointer<|some av) w)(F:Pc I v (.pointer<|some aw) w)(hv:∃a l c,v=.slice a l c):
 Zc prog 134 #[qP n,v] w (qF (lI<|u_ k N I) w):=by
 obtain⟨va,vn,vc,rfl⟩:=hv;obtain⟨a,e1,y,C⟩:=Bv N r;obtain⟨x,er,z,o⟩:=Bv I t;have K:Fr w w [(n,rB k (.pointer<|some av) (.pointer<|some aw) kd m s al Y)]:=⟨qW,λp hp=>by simp at hp;subst hp;exact E⟩;unfold Pc at F D;simp only[y]at D;simp only[z]at F;have L:=Z<|D _ (K.d zG).c;have J:=Z F;have ao:=Z<|K.d zG;obtain⟨aB,A,aC⟩:=Fe E;have i:=bC E 1;simp at i
 have B:Hid ((((e1:Int) != 0)=true/\lI (u_ k N I)=.tuple #[.agg #[qI 0,qI 0,.string ⟨#[]⟩],qI (e1:Nat)]) \/
  (e1=0/\(17<=k/\Nf a.aC a.n ⟨a.s.toArray⟩ (bh<|k==18).aC (bh<|k==18).n ⟨(bh<|k==18).s.toArray⟩=true/\lI (u_ k N I)=.tuple #[.agg #[qI a.aC,qI a.n,qT a.s],qI 0] \/
   (17<=k->Nf a.aC a.n ⟨a.s.toArray⟩ (bh<|k==18).aC (bh<|k==18).n ⟨(bh<|k==18).s.toArray⟩=false)/\dv a/\(17<=k->a≠bh (k==18))/\(11<=k->k<=16->∀b,I=.ok b->a.c=false->b.c=false->fy a b=dz a b)/\(17<=k->cX 3 a)/\u_ k N I=qM k a I))):=by
  obtain⟨rfl,h⟩|⟨rfl,h⟩:=C
  .exact .inl ⟨by simp;omega,rfl⟩
  refine .inr ⟨h,?_⟩;rw[yW];unfold u_;simp only;by_cases he:17<=k/\a=bh (k==18)
  .rw[VG he];exact .inl ⟨he.1,ai.d he.2,rfl⟩
  .rw[VF he];exact .inr ⟨λh=>ai.l λe=>he ⟨h,e⟩,u a rfl,λh e=>he ⟨h,e⟩,λh h' b hb=>g h h' a b rfl hb,λh=>(d h).1 a rfl,rfl⟩
 have HX:=Z λ(M:dv a) (g3:17<=k->cX 3 a)=>λR g4=>Ma (a:=a) G M o j R (λh=>⟨g3 h,(d h).2⟩) q g4;have H:Hid (k<=10->dv a->er=0->∀W:Za,Zc prog 193 #[.string<|iX k,qI a.n,qI x.n] W<|qF (lI<|dd k a.n x.n) W):=λax ay h0 W=>by
  obtain⟨_,h⟩|⟨rfl,_⟩:=o
  .exact absurd h0 h
  exact Qp k G ax a.n x.n W ay.range (j x rfl).range
 have ah:=Z λoc W=>JJ (lU k oc) W;have aj:=Z λW=>JJ (k==18) W;have aA:=tA;generalize bh (k==18)=tv at*;generalize O:lI (u_ k N I)=OO at*;have HG:=Z O;clear D E F u j r t g d C o y z K O;obtain rfl|rfl|rfl|rfl|rfl|rfl|rfl|rfl|rfl|rfl|rfl|rfl|rfl:k=6\/k=7\/k=8\/k=9\/k=10\/k=11\/k=12\/k=13\/k=14\/k=15\/k=16\/k=17\/k=18:=by omega
 all_goals
  clear G q;simp[iX,mg]at A;simp only[Nat.reduceBEq]at aj;go_in;go_wp2_with fail;apply qR L;intro w1 d;have ap:=Z<|ao.b d;clear L A i d;go_upto_region 8 with fail
  have o:=ap.d<|vO a;generalize w1.alloc (vO a)=w2 at*;generalize w1.heap.size=A at*;obtain⟨F,C,D,E,-⟩:=rJ o.h;obtain⟨u,q,r,t,d,g,i⟩:=rJ o.t.h;obtain⟨y,j,G⟩:=Fe o.t.t.h;simp[iX,mg]at j;have aa:=Z o;clear o;obtain⟨az,z⟩|⟨rfl,Q⟩:=B.o
  .have O:=Z z;clear z B;go_wp2;exact GH aa.t.h aa.c rfl rfl O
  have HQ:=Z Q;clear Q B;go_wp2_with fail;apply qR<|aj w2;intro w3 o;simp only[oK];have aq:=Z<|aa.b o;clear u q r t d g i F C D E y j G o;go_upto_region 24 with fail
  have o:=aq.d<|vO tv;generalize w3.alloc (vO tv)=w4 at*;generalize w3.heap.size=L at*;obtain⟨X,T,U,V,-⟩:=rJ o.h;obtain⟨F,C,D,E,-⟩:=rJ o.t.h;obtain⟨u,q,r,t,d,g,i⟩:=rJ o.t.t.h;obtain⟨y,j,G⟩:=Fe o.t.t.t.h;simp[iX,mg]at j;have P:=Z o;clear o;obtain⟨ak,S,z⟩|⟨S,Q⟩:=HQ.o
  ·first
    |omega
    | (have O:=Z z
       clear z HQ;go_wp2
       exact GH P.t.t.h P.c rfl rfl O)
  have HE:=Z S;have K:=Z Q;clear S Q HQ;try have S:=HE.o<|by decide
  go_wp2_with fail;apply qR<|J w4 P.c;intro w5 o;have ar:=Z<|P.b o;clear u q r t d g i F C D E X T U V y j G o;go_upto_region 27 with fail
  have o:=ar.d<|vO x;generalize w5.alloc (vO x)=w6 at*;generalize w5.heap.size=B at*;obtain⟨af,ac,ad,ae,-⟩:=rJ o.h;obtain⟨X,T,U,V,-⟩:=rJ o.t.h;obtain⟨F,C,D,E,-⟩:=rJ o.t.t.h;obtain⟨u,q,r,t,d,g,i⟩:=rJ o.t.t.t.h;obtain⟨y,j,-⟩:=Fe o.t.t.t.t.h;simp[iX,mg]at j;have Q:=Z o;clear o J;obtain⟨M,R,g3,g4,o⟩:=K.o;have hX:=HX.o M g4 g3 R;rw[<-o,HG]at hX;have J:=Z λh=>H h M;clear M R g3 g4 o K HX HG H;obtain⟨az,z⟩|⟨rfl,(⟨⟨ak,G⟩|⟨ak,G,k0,k1⟩,z⟩|⟨⟨G,k0|⟨k0,k1⟩⟩,z⟩)|⟨o,k0,k1,z⟩⟩:=hX;all_goals try replace G:=G<|by decide
  all_goals
   first
    |omega
    | (clear o
       simp only[Nat.reduceLeDiff,if_true,if_false]at z
       first
        | (have H:=Z (J (by decide) rfl)
           generalize dd _ a.n x.n=oo at*;obtain⟨ox,oy,oz,aD,o⟩:=Bu oo;rw[o]at H z;simp[iX,mg]at H;have O:=Z z;clear o z J;go_wp2_with fail;apply qR<|Jc a x w6;intro w7 K;have o:=Q.b K;generalize fy a x=oc at*;clear u q r t d g i F C D E X T U V af ac ad ae y j;obtain⟨af,ac,ad,ae,-⟩:=rJ o.h;obtain⟨F,C,D,E,-⟩:=rJ o.t.t.h;obtain⟨u,q,r,t,d,g,i⟩:=rJ o.t.t.t.h;obtain⟨y,j,-⟩:=Fe o.t.t.t.t.h;simp[iX,mg]at j;have R:=Z o;clear K o;go_upto_region 49 with fail
           have an:=Z<|Uu H R.t.t.t.h R.c
           go_region_law (refine eN rfl (.tmp 202) (.tmp 204) (.tmp 206) rfl It rfl rfl rfl an ?_
                          rintro v8 w8⟨rfl,ab,M⟩;obtain⟨aK,aE,aF,aG,aH,aI,aJ⟩:=rJ ab;have au:=Z ab;have am:=Z M
                          clear ab M)
           all_goals go_wp2_with fail
           all_goals exact GH au am rfl rfl O)
        | (have HOr:=Z (λW=>Jc a x W)
           generalize fy a x=oc at*;have ag:=Z<|ah oc;have O:=Z z;simp only[lU,VG,reduceIte,Nat.reduceEqDiff]at ag O;clear z J;go_wp2_with fail;apply qR<|HOr w6;intro w7 K;have o:=Q.b K;clear u q r t d g i F C D E X T U V af ac ad ae y j K HOr;obtain⟨u,q,r,t,d,g,i⟩:=rJ o.t.t.t.h;obtain⟨y,j,-⟩:=Fe o.t.t.t.t.h;simp[iX,mg]at j;have R:=Z o;clear o;go_wp2_with fail;apply qR<|ag w7;intro w8 M;simp only[oK];have o:=R.b M;clear u q r t d g i y j;obtain⟨u,q,r,t,d,g,i⟩:=rJ o.t.t.t.h;have j:=Z o;clear M o;go_wp2
           exact GH j.t.t.t.h j.c rfl rfl O))
    | (have O:=Z z
       clear z;go_wp2
       exact GH Q.t.t.t.h Q.c rfl rfl O)
def SS{p:k_}(c:¬p.op<=5)(h:bD F (.node n k p R S)=.ok M):∃a b,bD F R=.ok a/\bD F S=.ok b/\fm p.op a b=.ok M:=by
 unfold bD at h;rw[VF<|by omega,VF<|by omega]at h;cases hl:bD F R with
 |error e=>rw[hl]at h;cases h
 |ok a=>
  rw[hl]at h;simp only at h;rw[VF c]at h;cases hr:bD F S with
  |error e=>rw[hr]at h;cases h
  |ok b=>rw[hr]at h;exact⟨a,b,rfl,rfl,h⟩
def SR{p:k_}(c:2<=p.op)(b:p.op<=5)(h:bD F (.node n k p R S)=.ok M):∃a,bD F R=.ok a/\fm p.op a a=.ok M:=by
 unfold bD at h;rw[VF<|by omega,VF<|by omega]at h;cases hl:bD F R with
 |error e=>rw[hl]at h;cases h
 |ok a=>
  rw[hl]at h;simp only at h;rw[VG b]at h;exact⟨a,rfl,h⟩
def Qa{x y:ai}(d:cX a x)(e:cX M y)(b:dt a M=true)(n:x.c=false)(o:y.c=false):∃j,cX j x/\cX j y:=by
 have g:x.aC≠0:=by simpa[ai.c]using n
 have i:y.aC≠0:=by simpa[ai.c]using o
 have k:x.aC=a:=d.resolve_left g;have l:y.aC=M:=e.resolve_left i;unfold dt at b;have c:a=M:=by
  simp at b;obtain(h|h)|h:=b
  .exact h
  .exact absurd (k.trans h) g
  exact absurd (l.trans h) i
 exact⟨a,d,by rw[c];exact e⟩
def Gs{x:ai}(b:cX a x)(h:dt a 3=true):cX 3 x:=by
 unfold dt at h;simp at h;obtain h|h:=h
 .rw[<-h];exact b
 subst h;obtain h|h:=b
 .exact .inl h
 exact .inl h
def B5(g:List<|ah×ai)(u:g.length<=1000)(d:gY<|g.map (·.2))(k:BG (g.map (·.1))<|g.map (·.2)):∀(t:aA)(L:Int)(v K:Zb)(w:Za)(rb:Nat),ib t->gI t->dX t->bD (g.map (·.1)) t=.ok L->bz w rb t K->br w w.heap.size 6 tJ g v->Pc (bZ (g.map (·.1)) (g.map (·.2)) t) v K w
 |.nil,L,v,K,w,rb,hw,_,_,_,_,_=>absurd hw<|by simp[ib]
 |.node ta tb p l r,L,v,K,w,rb,hw,hk,hs,hc,ht,hv=>by
  intro W U;replace ht:=ht.below U;replace hv:=hv.below U;obtain⟨M,aa,R,Q⟩:=hw;obtain⟨_,j,o⟩:=hk;obtain⟨ab,I,P⟩:=hs;obtain⟨n,vl,vr,rfl,E,O,V⟩:=ht.q;have q:∃a l c,v=.slice a l c:=by obtain⟨a,c,rfl⟩:=hv.slice;exact⟨_,_,_,rfl⟩
  by_cases D:p.op=0
  .rw[D]at E;refine(O0 v E q).mono λe b h=>?_;unfold bZ;rw[VG D];exact h
  by_cases F:p.op=1
  .rw[F]at E;unfold bD at hc;rw[VF D,VG F]at hc;cases b:eE (g.map (·.1)) p.src p.name with
   |none=>rw[b]at hc;cases hc
   |some i=>
    refine(Mj u E hv b).mono λe x h=>?_;unfold bZ mq;rw[VF D,VG F,b];exact h
  have i:=Q (by omega);obtain⟨al,rfl⟩:=O.ptr i;by_cases G:p.op<=5
  .obtain⟨a,b,_⟩:=SR (by omega) G hc;have y:=B5 g u d k l a v _ W rb i j I b O hv;refine(O1 (by omega) G (λx A=>jN _ d j A) (λe z=>by have:=jc z;omega) E y q).mono λe B h=>?_;unfold bZ;rw[VF D,VF F];unfold qD at h;cases hq:bZ (g.map (·.1)) (g.map (·.2)) l with
   |error e2=>rw[hq]at h;exact h
   |ok x=>rw[hq]at h;simp only at h ⊢;rw[VG G];exact h
  have z:=R (by omega);obtain⟨X,rfl⟩:=V.ptr z;obtain⟨a,b,B,C,H⟩:=SS G hc;obtain⟨_,S,T,Y⟩:=yi H
  refine (O3 (by omega) M (λx A=>jN _ d j A) (λe N=>by have:=jc N;omega) (λx A=>jN _ d o A) (λe N=>by have:=jc N;omega)
   (λ_ _ x y A J m1 m2=>by
    obtain⟨L,t1,t2⟩:=Qa (jG d k i j B A) (jG d k z o C J) Y m1 m2
    exact uE (jN _ d j A) (jN _ d o J) t1 t2)
   (λZ=>by
    have h3:cD p.op=3:=by rw[cD,VG<|by omega]
    rw[h3]at S T
    exact⟨λx A=>Gs (jG d k i j B A) S,λy J=>Gs (jG d k z o C J) T⟩)
   n al X _ _ _ _ _ v W E (B5 g u d k l a v _ W rb i j I B O hv) (B5 g u d k r b v _ W rb z o P C V hv) q).mono λe w' h=>?_
  unfold bZ;rw[VF D,VF F];unfold u_ at h;cases hq:bZ (g.map (·.1)) (g.map (·.2)) l with
  |error e2=>rw[hq]at h;exact h
  |ok x=>
   rw[hq]at h;simp only at h ⊢;rw[VF G];exact h
