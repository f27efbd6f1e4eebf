import Derived.Test.YtojdpjpldokjmaaGreatDoorC18
import Derived.Test.YtojdpjpldokjmaaGreatDoorC12
set_option maxHeartbeats 0
set_option maxRecDepth 100000
set_option linter.all false
namespace Go.Proofs.YtojdpjpldokjmaaGreatDoor
open Go.Deep Go.RowKit Tryz
open Go renaming World->Za,Value->Zb,Calls->Zc,Ending->Zg,callFunc->Zi,maxLen->Zj
open RowKit renaming Hid->Ze,intOf->Zk
variable{X:YX}{I J:YW}{W w:World}{i j n:Nat}{A B C u z:Value}{R:aA}{M a:Int}{G:Y7}{K:aI}{F:YY}{g:Y5}{b:Bool}
def cw(src:YX)(fs:List<|YX×Int)(row:YW):List<|ah×ai:=fs.zipIdx.map λp=>(⟨src,p.1.1,p.1.2⟩,row.getD p.2 aE)
def RM(b:YX)(c:List<|YX×Int)(a:YW):(cw b c a).length=c.length:=by simp[cw]
def J6(b:YX)(d:List<|YX×Int)(a:YW)(i:Nat):(cw b d a)[i]?=d[i]?.map (λc=>(⟨b,c.1,c.2⟩,a.getD i aE)):=by simp only[cw,VO,List.getElem?_zipIdx,YL,XC];rfl
def RL(a:YX)(t:bV)(b:YW):(cw a t.a b).map (·.1)=ax a t:=by apply WX;intro i;simp[J6,ax];cases t.a[i]?<;>rfl
def RO{a:List (YX×Int)}(h:I.length=a.length):(cw X a I).map (·.2)=I:=by
 apply WX;intro i;simp only[VO,J6,YL];obtain hi|hi:=Wx i a.length
 .rw[VE hi,VE<|h▸hi];simp[List.getD,VE<|h▸hi]
 rw[V7 hi,V7<|h▸hi];rfl
def RN{a:List (YX×Int)}:(cw X a []).map (·.2)=List.replicate a.length aE:=by
 apply WX;intro i;simp only[VO,J6,YL,Xw];obtain hi|hi:=Wx i a.length
 .rw[VE hi,VG hi];rfl
 rw[V7 hi,VF<|by omega];rfl
def FU:(prog.info? 247).map (λi=>(i.zero,i.size,i.bytes))=some (some<|.agg #[.string ⟨#[]⟩,.string ⟨#[]⟩,qI 0,qI 0,qI 0,.string ⟨#[]⟩],6,72):=by kernel_rfl
def E1(w:Za)(l:List<|ah×ai)(e:Zg)(w':Za):Prop:=qB w w'/\∃v,e=.returned v/\w'.ownsRow w.heap.size 247 6 v l.length (l.flatMap tJ)
def Kv(l:List<|ah×ai):∀u∈l.flatMap tJ,u.oneCell'=true:=by intro u b;obtain⟨c,_,a⟩:=XJ.1 b;simp[tJ]at a;obtain rfl|rfl|rfl|rfl|rfl|rfl:=a<;>rfl
def Qn(l:List<|ah×ai):(l.flatMap tJ).length=l.length*6:=by
 induction l with
 |nil=>rfl
 |cons x l ih=>rw[Xc,VH,ih];simp[tJ];omega
def Uo{e f:Zb}{T:TypeId}(a:w.heap[n]?=some (.cells #[u,A,B,C,e,f] T))(x y z:Zb):(((w.setCell ⟨n,3,none⟩ x).setCell ⟨n,4,none⟩ y).setCell ⟨n,5,none⟩ z).heap[n]?=some (.cells #[u,A,B,x,y,z] T):=by have:=bS (bS (bS a 3 x) 4 y) 5 z;simpa using this
def M5(b:YX){o:List (YX×Int)}(g:w.heap[n]?=some (.cells #[z,A,B] 159)){U:Y0}(a:w.ownsRow j 157 5 A o.length U)(c:CL o U)(ac:o.length<=1000)(d:br w w.heap.size 3 vC I C):
 Zc prog 81 #[.pointer<|some ⟨n,0,none⟩,.string ⟨b.toArray⟩,C] w (E1 w<|cw b o I):=by
 obtain⟨xa,xc,rfl⟩:=d.slice;obtain⟨ca,cc,rfl,_⟩:=cz a;obtain⟨i0,hi,K,L,M⟩:=V5 FU;have S:=Z g;have P:=Z a;have Q:=Z c;have HR:=Z d;have R:=Z<|RM b o I;have HA:=Z<|J6 b o I;generalize cw b o I=out at*;clear g a c d;go_in;go_wp2
 go_loopw [7,8] (λs7 N wr=>∃i:Nat,i<=o.length/\N=.int .i64 i/\Ze (qB w wr/\wr.ownsRow w.heap.size 247 6 s7 i ((out.take i).flatMap tJ))) (λ_ N _=>o.length-(Zk N).toNat)
 exact⟨0,qO,rfl,qW,VP _ _ _ _⟩
 case round=>
  obtain⟨i,ae,rfl,c⟩:=hrel;obtain⟨l,a⟩:=c.o;have aa:=l.size;have t:=bB l (lB S) S;have n1:=bC t 1;simp at n1;have ag:=lB t;obtain⟨X,vn,Y,rfl⟩:=aF a;clear c;by_cases J:i<o.length
  .have d:o[i]?=some o[i]:=VE J;generalize o[i]=c at*;obtain⟨g,_,H,_,ad,e0⟩:=dA (aB l P) (Q i c d).1;cases H;obtain⟨g',_,H,_,_,e2⟩:=dA (aB l P) (Q i c d).2;cases H;have af:((i:Nat):Int)<((o.length:Nat):Int):=by omega
   have k:=HA.o i;rw[d,Option.map_some]at k;have HT:Ze<|out.take (i+1)=out.take i++[(⟨b,c.1,c.2⟩,I.getD i aE)]:=by rw[Ze,V9,k];rfl
   have HB:=Z l;have G:=Z a;have T:Ze (∀W,br W W.heap.size 3 vC I (.slice xa I.length xc)->i<I.length->∃g,xa=some ⟨g,0,none⟩/\g<W.heap.size/\W.cell? ⟨g,i*3,none⟩=some (.int .i64 (I.getD i aE).aC)/\W.cell? ⟨g,i*3+1,none⟩=some (.int .i64 (I.getD i aE).n)/\W.cell? ⟨g,i*3+2,none⟩=some (.string ⟨(I.getD i aE).s.toArray⟩)):=λW h r=>by obtain⟨x,_,H,p⟩:=h.val r;cases H;exact⟨x,rfl,p⟩
   have F:Ze<|¬i<I.length->I.getD i aE=aE:=λh=>by simp[List.getD,V7<|Nat.le_of_not_lt h]
   generalize I.getD i aE=y at*;clear l t a d k;go_upto_region 5 with fail
   go_cut [9]from 10 to 49 (λO E=>O=.pointer (some ⟨wr.heap.size,0,none⟩)/\Ze (qB w E/\E.ownsRow w.heap.size 247 6 (.slice X vn Y) i ((out.take i).flatMap tJ)/\E.heap[wr.heap.size]?=some (.cells #[.string ⟨b.toArray⟩,.string ⟨c.1.toArray⟩,.int .i64 c.2,.int .i64 0,.int .i64 0,.string ⟨#[]⟩] 247)))
   case first=>
    go_region;all_goals go_wp2_with fail
    all_goals go_meet
    exact⟨rfl,(HB.alloc HB.size _).drew,(G.alloc _).drew,aM wr _⟩
   obtain⟨rfl,u⟩:=hcut;obtain⟨p,a,q⟩:=u.o;have ab:=lB q;have d:=Z q;clear p a q
   go_upto_if 40 with fail
   go_cut [9]from 10 to 49 (λO E=>O=.pointer (some ⟨wr.heap.size,0,none⟩)/\Ze (qB w E/\E.ownsRow w.heap.size 247 6 (.slice X vn Y) i ((out.take i).flatMap tJ)/\E.heap[wr.heap.size]?=some (.cells (tJ (⟨b,c.1,c.2⟩,y)).toArray 247)))
   case first=>
    by_cases r:i<I.length
    .obtain⟨x,rfl,hx,x0,x1,x2⟩:=T.o wc (HR.below u.1) r;have V:((i:Nat):Int)<((I.length:Nat):Int):=by omega
     have q3:=bF d 3;have q4:=bF d 4;have q5:=bF d 5;have y3:=bC d 3;have y4:=bC d 4;have y5:=bC d 5;simp at y3 y4 y5;go_wp2;go_meet;refine⟨rfl,((u.1.setCell HB.size _).setCell HB.size _).setCell HB.size _,cN u.2.1 λk hk=>?_,Z<|Uo d (.int .i64 y.aC) (.int .i64 y.n)<|.string ⟨y.s.toArray⟩⟩;have D:k≠wr.heap.size:=λe=>by have:=(G.lt k hk).2;omega
     rw[VN _ _ _ _ D,VN _ _ _ _ D,VN _ _ _ _ D]
    have k:¬((i:Nat):Int)<((I.length:Nat):Int):=by omega
    go_wp2;go_meet;exact⟨rfl,u.1,u.2.1,by rw[Z<|F r];exact d⟩
   obtain⟨rfl,k⟩:=hcut;obtain⟨p,a,q⟩:=k.o;have z0:=bC q 0;have z1:=bC q 1;have z2:=bC q 2;have z3:=bC q 3;have z4:=bC q 4;have z5:=bC q 5;simp[tJ]at z0 z1 z2 z3 z4 z5;have x:=Z p;have V:=p.size;clear p q u k d T;go_wp2_with (at_builtin;refine VS _ rfl (.tmp 46) (.tmp 48) 163 rfl w.heap.size 247 i0 _ 6 72 underlying163 hi K L M rfl (by decide) _ _ _ rfl (a.alloc _) ⟨_,0,none⟩ 1 1 (tJ (⟨b,c.1,c.2⟩,y)) rfl rfl ?c1 ?c2 ?c3 ?c4 ?c5 ?_)
   case c1=>exact cW _ (tJ (⟨b,c.1,c.2⟩,y)) 247
   case c2=>exact λu hu=>Kv [(⟨b,c.1,c.2⟩,y)] u<|by simpa using hu
   case c3=>unfold Zj;omega
   case c4=>omega
   case c5=>simp;omega
   intro v' T d p q;have D:Ze<|qB w T/\T.ownsRow w.heap.size 247 6 v' (i+1) ((out.take<|i+1).flatMap tJ):=
    ⟨a_ (x.alloc x.size _) p (λk hk=>(a.lt k hk).1) (by simp;omega),by rw[HT,Ya];simpa using d⟩
   clear a d p q;go_wp2;go_roundw;exact⟨i+1,by omega,by go_num,D⟩;simp[Zk];omega
  obtain rfl:i=o.length:=by omega
  rw[VX<|R▸qZ]at a;have HB:=Z l;have c:=Z a;clear l a t;go_wp2;go_ret;exact⟨HB,_,rfl,by rw[R];exact c⟩
def vj(o:aV ai):Zb:=match o with
 |.error e=>.tuple #[.bool false,qI (e:Nat)]
 |.ok v=>.tuple #[.bool<|ai.same v<|bh true,qI 0]
def LX{v:ai}(h:dv v):ai.same v (bh true)=(v.aC==3&&v.n==1):=by obtain⟨k,n,s⟩:=v;obtain h|h|h|h:=h<;>obtain⟨a,b,c⟩:=h<;>simp_all [ai.same,bh]
def Nu{o:aV ai}(g:∀v,o=.ok v->dv v){v:Zb}(h:(u=.pointer none/\o=.ok (bh true))\/(Pc o v u w/\∃a,u=.pointer (some a)))(k:∃a l c,v=.slice a l c):
 Zc prog 82 #[u,v] w λe n=>e=.returned (vj o)/\qB w n:=by
 obtain⟨p,r,q,rfl⟩:=k;obtain⟨rfl,rfl⟩|⟨h,a,rfl⟩:=h
 .clear g;go_in;go_wp2;go_ret2;exact⟨rfl,qW⟩
 .have b:=Z<|h w qW;have HB:Ze (∀d o,qB w d->qB w (d.alloc o)):=λd o h=>h.alloc h.size _;cases o with
  |error er=>
   simp only[lI,oK,aE]at b;clear h g;go_in;go_wp2_with fail;apply qR b;intro d j;have i:=Z j;clear j b;go_wp2;go_ret2;exact⟨rfl,HB _ _ i⟩
  |ok x=>
   have i:Ze<|vj (.ok x)=.tuple #[.bool<|x.aC==3&&x.n==1,qI 0]:=by unfold Ze;show Zb.tuple #[.bool<|ai.same x<|bh true,_]=_;rw[LX<|g x rfl]
   simp only[lI,oK]at b;clear h g;cases hk:(x.aC==3);all_goals cases hn:(x.n==1)
   all_goals
    rw[hk,hn]at i;go_in;go_wp2_with fail;apply qR b;intro d h;have g:=Z h;clear h b;go_wp2_with fail;refine VI ?_ rfl ⟨Wd Zg.returned i.symm,HB _ _ g⟩;simp[results,results82,go_sem]
def T0{d a:List (ah×ai)}(r:w.ownsRow n 247 6 z d.length<|d.flatMap tJ)(b:w.ownsRow i 247 6 A a.length<|a.flatMap tJ)(H:a≠[])(R:d.length<=1000)(M:a.length<=1000):
 Zc prog 136 #[z,A] w (E1 w<|d++a):=by
 obtain⟨I,hi,l,o,p⟩:=V5 FU;obtain⟨g,F,rfl⟩:∃g c,A=qL g a.length c:=by
  obtain⟨_,x⟩|⟨g,c,_,h,_⟩:=b.2
  .exact absurd (V3.1 x) H
  exact⟨g,c,h⟩
 have HB:=Z b;have K:Ze (∀W:Za,W.ownsRow i 247 6 (qL g a.length F) a.length (a.flatMap tJ)->∀j u,(a.flatMap tJ)[j]?=some u->W.cell? ((⟨g,0,none⟩:Addr).add j)=some u):=λW h j u G=>by rw[addr_add];exact(iJ h).2 j u G
 have y:=Z Kv;have B:=Z Qn;clear b;obtain⟨rfl,x⟩|⟨L,P,Q,rfl,_⟩:=r.2
 .obtain rfl:d=[]:=V3.1 x;clear r x;go_in;go_upto_region 3 with fail
  go_wp2_with (at_builtin;refine VS _ rfl (.tmp 9) (.tmp 10) 163 rfl w.heap.size 247 I _ 6 72 underlying163 hi l o p rfl (by decide) _ _ _ rfl (VP _ _ _ _) ⟨g,0,none⟩ a.length F (a.flatMap tJ) rfl (B a) (K w HB) (y a) ?c3 ?c4 ?c5 ?_)
  case c3=>unfold Zj;omega
  case c4=>omega
  case c5=>simp
  intro C x b e q;have t:Ze<|qB w x/\x.ownsRow w.heap.size 247 6 C ([]++a).length (([]++a).flatMap tJ):=⟨a_ qW e (λk hk=>by cases hk) qZ,by simpa using b⟩;clear b e q;go_wp2;go_ret;exact⟨t.1,_,rfl,t.2⟩
 .have E:Ze (∀j u,(d.flatMap tJ)[j]?=some u->w.cell? ((⟨L,0,none⟩:Addr).add j)=some u):=λj u G=>by rw[addr_add];exact(iJ r).2 j u G
  clear r;go_in;go_wp2_with (at_builtin;refine VS _ rfl (.tmp 6) (.tmp 7) 163 rfl w.heap.size 247 I _ 6 72 underlying163 hi l o p rfl (by decide) _ _ _ rfl (VP _ _ _ _) ⟨L,0,none⟩ d.length P (d.flatMap tJ) rfl (B d) E (y d) ?c3 ?c4 ?c5 ?_)
  case c3=>unfold Zj;omega
  case c4=>omega
  case c5=>simp
  intro T N b q _;have e:qB w N:=a_ qW q (λk hk=>by cases hk) qZ;have t:=e.size;obtain⟨U,X,V,rfl⟩:=aF b;have C:=Z e;have D:=Z<|aB e HB;clear q e;go_wp2_with (at_builtin;refine VS _ rfl (.tmp 9) (.tmp 10) 163 rfl w.heap.size 247 I _ 6 72 underlying163 hi l o p rfl (by decide) _ _ _ rfl b ⟨g,0,none⟩ a.length F (a.flatMap tJ) rfl (B a) (K N D) (y a) ?d3 ?d4 ?d5 ?_)
  case d3=>unfold Zj;omega
  case d4=>omega
  case d5=>omega
  intro S O e q r;have J:Ze<|qB w O/\O.ownsRow w.heap.size 247 6 S (d++a).length ((d++a).flatMap tJ):=⟨a_ C q (λk hk=>(b.lt k hk).1) t,by rw[Ya,VH];simpa using e⟩;clear e q r b;go_wp2;go_ret;exact⟨J.1,_,rfl,J.2⟩
def kT(lo:Nat)(w:Za)(M:Y7)(b:Nat)(o:aI×iW)(e:Zg)(w':Za):Prop:=
 e=.returned (.tuple #[qI o.2.count,qI (o.2.err:Nat)])/\∃M' lay',ei lo w M b o.1 w' M' lay'
def pI{d:Y_}:(Zi 79 d).run prog w=.ok (.enter 79 d) w:=by
 have g:(f79.name == "runtime.NumGoroutine")=false:=by kernel_rfl
 have c: f79.body.isNone=false:=by kernel_rfl
 have a:¬f79.name = "runtime.NumGoroutine":=by simpa using g
 have b:¬f79.body=none:=by intro e;rw[e]at c;cases c
 simp[Zi,go_sem,func79,a,b]
def Dt(w:Za):br w w.heap.size 6 tJ [] qN:=⟨none,0,rfl,λh=>absurd rfl h⟩
def SZ(d:ib R)(b:gI R)(k:dX R)(g:0<=M/\M<=3)(c:bz w n R u):
 Zc prog 79 #[u,qN,qI M] w (qF (qI ((aT [] R M).getD 0:Nat)) w):=by
 have h:=KL [] (by simp) (by simp) R qN u w n d b k c (Dt w) w qW;obtain⟨a,rfl⟩:=c.ptr d;rw[<-DD];exact OZ [] g (λa i=>pV (by simp) b i) (λe j=>fB j) h ⟨_,_,_,rfl⟩ ⟨_,rfl⟩
def S7(h:ib R)(c:gI R)(d:dX R)(b:bD [] R=.ok a)(e:bz w n R u):Pc (bZ [] [] R) qN u w:=
 B5 [] (by simp) (λv g=>by cases g) (λi=>by left;simp[aE]) R a _ u w n h c d b e (Dt w)
def JF{ts:Y6}{ws:List Int}{i:Nat}(b:ts[i]?=some R)(c:ws[i]?=some a):eI (ts.drop i) (ws.drop i)=match aT [] R a with
 |some e=>some e
 |none=>eI (ts.drop<|i+1)<|ws.drop<|i+1:=by
 have hi:=bw b;have d:=bw c;rw[VJ hi,VJ d];rw[VE hi]at b;rw[VE d]at c;cases b;cases c;rfl
def PY(lo:Nat)(s:aX)(hs:eL s)(hk:s.aC=105){b:List (aA×Zb)}(Q:b.map (·.1)=s.c.map (·.aW))(aN:∀p∈b,dX p.1){u0 u3 u4 u5 u6 u7 u8 u9:Zb}{az:Y5}(h:jE w G j az K)(aK:lo<=w.heap.size)
 (hn:w.heap[n]?=some (.cells #[u0,qT s.table,z,u3,u4,u5,u6,u7,u8,u9] 111))(ht:Hz w w.heap.size b z)(rb:Nat)(aO:∀p∈b,bz w rb p.1 p.2):
 Zc prog 49 #[qP j,qP n] w (kT lo w G j<|dI K s):=by
 have HS:=Z hs;have n1:=bC hn;have HF:=Z<|Db s.table h;have HN:=Z hn;have HT:=Z ht;have U:=Z aO;have HX:=Z h;have C:=Z Q;have aq:b.length<=1000:=by have:=Wd List.length Q;simp at this;have:=hs.len;omega
 have af:Ze (∀p∈b,cY p.1/\dX p.1):=λp hp=>by
  have:p.1∈s.c.map (·.aW):=by rw[<-Q];exact V0 hp
  obtain⟨g,d,a⟩:=VV.1 this;rw[<-a];exact⟨hs.c (by omega) g d,by rw[a];exact aN p hp⟩
 have aV:=Z (show b.length=s.c.length by have:=Wd List.length Q;simpa using this);generalize aH:dI K s=out;have t:=Z aH;have B:Ze (∀D J,out=(K,di D)->qB w J->kT lo w G j out (.returned<|.tuple #[qI 0,qI (D:Nat)]) J):=λD J ho hb=>by rw[ho];exact⟨rfl,G,az,ei.below h hb⟩
 have am:Ze (∀J M' I D' (c:Int),out=(D',⟨[],c,0⟩)->ei lo w G j D' J M' I->kT lo w G j out (.returned<|.tuple #[qI c,qI 0]) J):=λJ M' I D' c ho ab=>by rw[ho];exact⟨rfl,M',I,ab⟩
 generalize kT lo w G j out=aW at*;obtain⟨ia,ic,rfl,_⟩:=ht;cases hta:bO K s.table with
 |none=>
  rw[hta]at HF;have a:=Z<|B 2 w (by rw[<-t];exact sw hta) qW;simp only[iA]at HF;go_in;go_wp2_with fail;apply qS HF;go_wp2;exact a
 |some i=>
  obtain⟨l,(HL:Ze _),(ai:Ze _),av⟩:=HX.d<|cx hta;rw[hta,av]at HF;have hT:=HX.c i l _ HL ai;have S:=HX.ok.2 _<|dS<|cx hta;have T:=Z hta;obtain⟨cv,(N:Ze _),⟨a6,(ad:Ze _),(aE:Ze _)⟩,_⟩:=hT.q;have l1:=bC N;have ar:=lB N;have a9:=S.b;have aj:=Z hT;have ae:=Z S;obtain⟨ca,cc,rfl,ao⟩:=cz ad;generalize aJ:(ak K i).a=o at*;have L:=Z aJ;go_in;go_wp2_with refine HF.mono ?_;rintro e w1⟨rfl,rfl⟩;go_upto_region 4 with fail
  go_cut [29] (λaU wx=>∃q:Nat,aU=.bool ((o.length:Int) != (b.length:Int))/\wx=w1.drewN q)
  case first=>
   go_quiet (fail)
   all_goals go_wp2_with fail
   all_goals go_meet
   all_goals exact⟨_,rfl,rfl⟩
  obtain⟨q,rfl,rfl⟩:=hcut;have X:qB w1<|w1.drewN q:=below_drewN qW q;generalize w1.drewN q=w2 at*;by_cases O:b.length=o.length
  .have a:((o.length:Int) != (b.length:Int))=false:=by simp;omega
   rw[a];have A:=Z O;have aC:=Z X;have al:Ze<|l8 (b.map (·.1)) o=eI (b.map (·.1)) (o.map (·.2)):=by unfold Ze l8;rw[VF<|by simp[O]]
   clear a O X;go_wp2
   go_loopw [7] (λa wr=>∃k:Nat,k<=b.length/\a=qI k/\Ze (qB w1 wr/\eI (b.map (·.1)) (o.map (·.2))=eI ((b.map (·.1)).drop k) ((o.map (·.2)).drop k))) (λa _=>b.length-(Zk a).toNat)
   exact⟨0,qO,rfl,aC,by simp⟩;obtain⟨k,bb,rfl,HI⟩:=hrel;have d:=HI.1;have ac:=d.size;have aa:=bB d (lB hn) HN;have i1:=bC aa;have a3:=lB aa;have Y:=bB d ar N;have j1:=bC Y;have a1:=lB Y;by_cases y:k<b.length
   ·have R:b[k]?=some b[k]:=VE y;have H:o[k]?=some (o[k]'(by rw[<-A];exact y)):=VE _;have r:=VQ y;have M:o[k]'(by rw[<-A];exact y)∈o:=VQ _;generalize o[k]'(by rw[<-A];exact y)=c at*;generalize b[k]=p at*;obtain⟨pt,pv⟩:=p;obtain⟨g,_,he,_,aY,e0⟩:=dA (aB d ad) (aE k c H).2;cases he;obtain⟨_,_,V,h2⟩:=HT.below d;cases V;obtain⟨gi,rfl,ba,h3⟩:=h2 (by rintro rfl;simp at y);have e1:=h3 k _ R;simp only at e1;obtain⟨u,E⟩:=af.o _ r;simp only at u E;obtain⟨pa,rfl⟩:=(U _ r).ptr u.1;have P:0<=c.2/\c.2<=3:=by
     have:=(ae.a c<|L▸M).1;omega
    have x:=Z<|JF (i:=k) (ts:=b.map (·.1)) (ws:=o.map (·.2)) (by rw[VO,R];rfl) (by rw[VO,H];rfl);have F:=Z λW (hb:qB wr W)=>SZ u.1 u.2.1 E P<|((U _ r).below d).below hb;have bd:(k:Int)<(b.length:Int):=by omega
    have bc:(k:Int)<(o.length:Int):=by have:=A.o;omega
    have a5:=Z u;clear d aa Y h2 h3 u E r M P;go_upto_region 9 with fail
    generalize P:aT [] pt c.2=Y at*;have M:=Z P
    go_cut [8]from 30 to 58 (λs8 wx=>s8=qI ((Y.getD 0:Nat):Int)/\Ze (qB wr wx))
    case first=>
     have r:Ze (Zc prog 79 #[.pointer<|some pa,qN,qI c.2] wr.drew λe J=>∃v,e=.returned v/\(v=qI ((Y.getD 0:Nat):Int)/\qB wr J)):=by apply qR<|F wr.drew<|qW.drew;intro J hb;exact⟨_,rfl,rfl,qW.drew.trans hb⟩
     go_region_law (refine eN rfl (.tmp 46) (.const qN) (.tmp 54) rfl pI rfl rfl rfl r ?_
                    rintro E w8⟨rfl,(u:Ze _)⟩
                    skip)
     all_goals go_wp2_with fail
     all_goals go_meet
     all_goals exact⟨rfl,u⟩
    obtain⟨rfl,u⟩:=hcut;have r:=Z<|HI.1.trans<|u.mono ac;cases hoe2:Y with
    |some D=>
     have E:D=2\/D=3:=fu<|M.trans hoe2;have a_:((D:Int) != 0)=true:=by simp;omega
     have HE:=Z (B D wc (by
      rw[<-t];refine qi T ?_
      rw[<-C,L,al,HI.2,x,hoe2]) r)
     simp only[W8];go_wp2;exact HE
    |none=>
     have E:Ze<|eI (b.map (·.1)) (o.map (·.2))=eI ((b.map (·.1)).drop<|k+1) ((o.map (·.2)).drop<|k+1):=by unfold Ze;rw[HI.2,x,hoe2]
     simp only[W7];go_wp2;go_roundw;exact⟨k+1,by omega,by go_num,r,E⟩;simp[Zk];omega
   obtain rfl:k=b.length:=by omega
   have aQ:l8 (b.map (·.1)) o=none:=by rw[al,HI.2,Wt<|by simp,Wt<|by simp[A.o]];rfl
   obtain⟨e1,e2,(M:Ze _)⟩:=yV T (by rw[<-C,L];exact aQ)
   have HR:=Z (Ac [] [] qN (HT.below d) (λp hp=>by
    obtain⟨W,aw⟩:=af.o p hp;have hm:p.1∈s.c.map (·.aW):=by rw[<-C];exact V0 hp
    obtain⟨ty,aP⟩:=vK (by simpa using e1) e2 _ hm;have ax:=(U p hp).below d;obtain⟨pa,aM⟩:=ax.ptr W.1
    exact⟨S7 W.1 W.2.1 aw aP ax,⟨_,aM⟩⟩) ⟨_,_,_,rfl⟩ aq)
   rw[C]at HR;have aD:=Z d;go_wp2_with refine HR.mono ?_;rintro e w3⟨an,aL⟩;have r:=Z<|aD.trans<|an.mono ac;have be:=an.size;obtain⟨D,g,rfl⟩|⟨row,u,g,rfl,hu⟩:=aL
   .have E:((D:Int) != 0)=true:=by have:=kF g;simp;omega
    have x:=Z<|B D w3 (by rw[<-t,M,g]) r;go_wp2;exact x
   obtain⟨ra,rc,P,ao⟩:=cz aj.rows;have R:=bB r ar N;have m2:=bC R 2;simp at m2;rw[P]at m2;have aZ:=lB R;obtain⟨ua,un,uc,rfl⟩:=aF hu;by_cases V:(ak K i).rows.length=25
   .have x:=Z<|B 6 w3 (by rw[<-t,M,g];simp only;rw[VG V]) r;have E:((((ak K i).rows.length:Nat):Int)==25)=true:=by simp;omega
    go_wp2;exact x
   have a8:((((ak K i).rows.length:Nat):Int)==25)=false:=by simp;omega
   have a4:=ae.d;have F:=aB r aj.rows;rw[P]at F;obtain⟨i0,hi,aR,aS,ay⟩:=V5 iN;have ag:Ze<|ec<|cm K i<|(ak K i).rows++[row]:=by unfold Ze;have:=nW HS HX.ok;unfold d_ at this;rw[VF<|by omega,VG hk,M,g]at this;simp only at this;rw[VF V]at this;exact this
   have ah:Ze<|out=(cm K i<|(ak K i).rows++[row],⟨[],1,0⟩):=by rw[Ze,<-t,M,g];simp only;rw[VF V]
   go_wp2_with (at_builtin;refine Wv _ rfl (.tmp 80) (.tmp 82) 29 rfl 0 32 i0 _ 1 24 underlying29 hi aR aS ay rfl (by decide) _ _ _ rfl (F.alloc _) ⟨w3.heap.size,0,none⟩ 1 1 [.slice ua un uc] rfl rfl ?c1 ?c2 ?c3 ?c4 ?c5 ?_)
   case c1=>exact cW w3 [.slice ua un uc] 32
   case c2=>intro x hx;simp at hx;subst hx;rfl
   case c3=>unfold Zj;omega
   case c4=>omega
   case c5=>simp
   intro v' w4 H ap a2 au;rw[<-P]at ap au;obtain⟨⟨a7,E⟩,ab⟩:=LW HX HL ai (w3:=w3.alloc<|.cells #[.slice ua un uc] 32) (r.alloc (by omega) _) ((Z<|bU hu ac).alloc _) H ap (by simpa using au) ag.o;have aG:=Z ab;have q2:=bC E 2;have qf:=bF E 2;simp at q2;rw[P]at q2;have a0:=lB E;obtain⟨xa,xn,xc,rfl⟩:=aF H;go_wp2;exact am _ _ _ _ 1 ah<|aG.low aK
  have d:((o.length:Int) != (b.length:Int))=true:=by simp;omega
  rw[d]
  have a:=Z (B 3 w2 (by
   rw[<-t];refine qi T ?_;unfold l8
   rw[<-C,L,VG<|by simpa using O]) X)
  go_wp2;exact a
def I_(ab:YY):Prop:=ab.length<=1000/\∀c∈ab,0<=c.type/\c.type<=3
def O_(w:Za)(ab:YY)(row:YW)(v:Zb):Prop:=row.length=ab.length/\br w w.heap.size 6 tJ (ab.zip row) v
def O_.c{v:Zb}(h:O_ w F I v):∃a l c,v=.slice a l c:=by obtain⟨a,c,e⟩:=h.2.slice;exact⟨a,_,c,e⟩
def O_.below{v:Zb}(h:O_ w F I v)(a:qB w W):O_ W F I v:=⟨h.1,h.2.below a⟩
def DH{α β:Type}{a:List α}{b:List β}(h:b.length=a.length):(a.zip b).map (·.1)=a:=List.map_fst_zip<|by omega
def KQ{α β:Type}{a:List α}{b:List β}(h:b.length=a.length):(a.zip b).map (·.2)=b:=List.map_snd_zip<|by omega
def EO(d:I_ F)(c:cY R)(l:dX R)(i:0<=M/\M<=3){v:Zb}(g:bz w n R u)(b:O_ w F I v):
 Zc prog 79 #[u,v,.int .i64 M] w λe o=>e=.returned (.int .i64 ((aT F R M).getD 0:Nat))/\Below w.heap.size w o:=by
 have h:=KL (F.zip I) (by rw[WS,b.1,XB];exact d.1) (by rw[DH b.1];exact d.2) R v u w n c.1 c.2.1 l g b.2 w<|VM _ _;obtain⟨a,rfl⟩:=g.ptr c.1;rw[DH b.1]at h;rw[<-DD];exact OZ (F.zip I) i (λa j=>pV d.2 c.2.1 j) (λe k=>fB k) h b.c ⟨_,rfl⟩
def ER(c:aZ F I)(g:F.length<=1000)(e:cY R)(j:dX R)(d:bD F R=.ok a){v:Zb}(i:bz w n R u)(b:O_ w F I v):Pc (bZ F I R) v u w:=by have h:=B5 (F.zip I) (by rw[WS,b.1,XB];exact g) (by rw[KQ b.1];exact c.2.1) (by rw[DH b.1,KQ b.1];exact c.2.2) R a v u w n e.1 e.2.1 j (by rw[DH b.1];exact d) i b.2;rw[DH b.1,KQ b.1]at h;exact h
def Mn(w:Za)(rb:Nat)(t:aA)(v:Zb):Prop:=(t=.nil/\v=.pointer none)\/(cY t/\dX t/\bz w rb t v)
def Mn.below{v:Zb}(h:Mn w n R v)(a:qB w W):Mn W n R v:=h.imp id λh=>⟨h.1,h.2.1,h.2.2.below a⟩
def D9(b:aZ F I)(g:F.length<=1000){t:aA}(c:bD F (aK t)=.ok M){v:Zb}(i:Mn w n t u)(d:O_ w F I v):
 Zc prog 82 #[u,v] w (qF (vj<|bZ F I<|aK t) w):=by
 obtain⟨rfl,rfl⟩|⟨hk,hs,e⟩:=i
 .refine Nu (λv h=>?_) (.inl ⟨rfl,vd _ _⟩) d.c;rw[vd]at h;cases h;exact .inr<|.inr<|.inr ⟨rfl,.inr rfl,rfl⟩
 .rw[lg hk]at c ⊢;obtain⟨a,rfl⟩:=e.ptr hk.1;exact Nu (λv h=>jN F b.2.1 hk.2.1 h) (.inr ⟨ER b g hk hs c e d,⟨_,rfl⟩⟩) d.c
def xH{src:YX}{t:bV}(h:ij t):I_<|ax src t:=by refine⟨by rw[cH];have:=h.b;omega,λc a=>?_⟩;obtain⟨x,b,rfl⟩:=VV.1 a;have:=(h.a x b).1;show 0<=x.2/\x.2<=3;omega
def RP(a:YX)(t:bV)(h:(I=[]/\J=List.replicate t.a.length aE)\/(I.length=t.a.length/\J=I)):cw a t.a I=(ax a t).zip J:=by
 have e:(cw a t.a I).map (·.2)=J:=by
  obtain⟨rfl,rfl⟩|⟨h,rfl⟩:=h
  .exact RN
  exact RO h
 rw[<-RL a t I,<-e,List.zip_map'];simp
def mi(w:Za)(ab:YY)(row:YW)(v:Zb)(w':Za):Prop:=(∃a n c,v=.slice a n c)/\qB w w'/\row.length=ab.length/\w'.ownsRow w.heap.size 247 6 v (ab.zip row).length ((ab.zip row).flatMap tJ)
def mi.c{v:Zb}(h:mi w F I v W):O_ W F I v:=⟨h.2.2.1,c7 (f:=tJ) (λ_=>rfl) h.2.2.2 qZ⟩
def Fv{l:fG}{t:bV}(o:tQ w G l t)(g:∀k,G k->k<w.heap.size)(j:ij t)(a:YX)(z:(u=qN/\I=List.replicate t.a.length aE)\/(I.length=t.a.length/\br w w.heap.size 3 vC I u))(c:qB w W):
 Zc prog 81 #[qP l.n,qT a,u] W λe b=>∃v,e=.returned v/\mi W (ax a t) I v b:=by
 obtain⟨cv,q,⟨A,x,y⟩,B⟩:=o.q;have key:∀r:YW,br w w.heap.size 3 vC r u->((r=[]/\I=List.replicate t.a.length aE)\/(r.length=t.a.length/\I=r))->Zc prog 81 #[qP l.n,qT a,u] W λe b=>∃v,e=.returned v/\mi W (ax a t) I v b:=λr n p=>by
  refine(M5 a (bB c (g _ o.own) q) (aB c x) y (by have:=j.b;omega)<|n.below c).mono ?_;rintro e b⟨d,v,rfl,i⟩;rw[RP a t p]at i;refine⟨v,rfl,aF i,d,?_,i⟩;rw[cH];obtain⟨_,rfl⟩|⟨h,rfl⟩:=p
  .simp
  exact h
 obtain⟨rfl,h⟩|⟨h,n⟩:=z
 .exact key [] ⟨none,0,rfl,λh=>absurd rfl h⟩<|.inl ⟨rfl,h⟩
 .exact key I n<|.inr ⟨h,rfl⟩
def ki{d:Y_}:(Zi 81 d).run prog w=.ok (.enter 81 d) w:=by
 have g:(f81.name == "runtime.NumGoroutine")=false:=by kernel_rfl
 have c: f81.body.isNone=false:=by kernel_rfl
 have a:¬f81.name = "runtime.NumGoroutine":=by simpa using g
 have b:¬f81.body=none:=by intro e;rw[e]at c;cases c
 simp[Zi,go_sem,func81,a,b]
def C7{d:Y_}:(Zi 82 d).run prog w=.ok (.enter 82 d) w:=by
 have g:(f82.name == "runtime.NumGoroutine")=false:=by kernel_rfl
 have c: f82.body.isNone=false:=by kernel_rfl
 have a:¬f82.name = "runtime.NumGoroutine":=by simpa using g
 have b:¬f82.body=none:=by intro e;rw[e]at c;cases c
 simp[Zi,go_sem,func82,a,b]
def GK{b:Nat}(h:jE w G b g K){l:fG}{t:bV}(H:g[i]?=some l)(J:K[i]?=some t){rows:List YW}{us:Y0}{v':Zb}(o:qB w W)
 (a:W.ownsRow w.heap.size 32 1 v' rows.length us)(d:rows=[]->v'=qN)(q:∀(j:Nat)(r:YW)(u:Zb),rows[j]?=some r->us[j]?=some u->Ak W (grown G w W) r u)(E:ec<|cm K i rows):
 (∃cv,W.heap[l.n]?=some (.cells #[qT t.name,cv,l.a] 159)) /\
 ei w.heap.size w G b (cm K i rows) (W.setCell ⟨l.n,2,none⟩ v') (grown G w W) (g.set i ⟨l.n,v',us⟩):=by
 have B:=h.c i l t H J;obtain⟨cv,N,⟨M,F,D⟩,O⟩:=B.q;have R:=o.size;have p:W.heap[l.n]?=some (.cells #[qT t.name,cv,l.a] 159):=(o.block _<|h.lt _ B.own).trans N;refine⟨⟨cv,p⟩,?_⟩;have c:∀k,k<w.heap.size->k≠l.n->(W.setCell ⟨l.n,2,none⟩ v').heap[k]?=w.heap[k]?:=λk hk z=>by rw[VN _ _ _ _ z];exact o.block k hk
 have y:∀{base:Nat} {e:TypeId} {size n:Nat} {v:Zb} {L:Y0},W.ownsRow base e size v n L->e≠159->∀k,v.ownBlock=some k->(W.setCell ⟨l.n,2,none⟩ v').heap[k]?=W.heap[k]?:=by intro base e size n v L x P k hk;obtain⟨C,m,Q⟩:=eX x hk;exact VN _ _ _ _<|gZ Q p P
 have A:∀k,G k->grown G w W k:=λk hk=>.inl hk;refine⟨h.put H J A (λk hk=>?_) (λk hk z I=>c k (h.lt k hk) z) ?_ (λk hk=>.inr (a.lt k hk).1) E,A,λk hk=>hk.imp id λh=>h.1,?_⟩
 .rw[size_set];obtain hk|hk:=hk
  .have:=h.lt k hk;omega
  exact hk.2
 .refine⟨A _ B.own,⟨cv,by simpa using bS p 2 v',⟨M,cN (aB o F)<|y (aB o F)<|by decide,D⟩,λk hk=>A k<|O k hk⟩,cN (bU a qO)<|y a<|by decide,λk hk=>.inr<|a.lt k hk,d,λj r x C P=>?_⟩;have:=q j r x C P;exact this.aL (λk hk=>hk)<|y this.1<|by decide
 .refine⟨o.os,o.tape,o.output,by rw[size_set];omega,λk hk=>c k hk.1 λe=>hk.2<|e▸B.own⟩
def oR(o:aV ai):∃(a:Bool)(b:Nat),vj o=.tuple #[.bool a,qI (b:Nat)]:=by
 cases o with
 |error e=>exact⟨_,_,rfl⟩
 |ok v=>exact⟨_,0,rfl⟩
def tB{o:aV ai}(h:vj o=.tuple #[.bool b,qI (n:Nat)]):(o=.error n/\b=false)\/(n=0/\∃v,o=.ok v/\(b=true↔v=bh true)):=by
 cases o with
 |error e=>simp[vj]at h;exact .inl ⟨Wd Except.error<|by omega,h.1⟩
 |ok v=>simp[vj]at h;exact .inr ⟨by omega,v,rfl,by rw[<-h.1];exact ai.q _ _⟩
def Ex{l:fG}{t:bV}(b:tQ w G l t):(t.rows.zip l.us).map (·.1)=t.rows/\df (t.rows.zip l.us)=l.us/\∀p∈t.rows.zip l.us,Ak w G p.1 p.2:=by
 have c:l.us.length=t.rows.length:=by have:=b.rows.1;omega
 refine⟨DH c,KQ c,λp d=>?_⟩;obtain⟨j,a⟩:=Wn.1 d;rw[Xk]at a;exact b.each j p.1 p.2 a.1 a.2
structure Ph(w wr:Za)(ab:YY)(c:aA)(ps:YZ)(i:Nat)(v:Zb)(a b:YZ):Prop where
 d:qB w wr
 own:wr.ownsRow w.heap.size 32 1 v b.length<|df b
 nil:b=[]->v=qN
 len:a.length+b.length=i
 e:cu ab c ps=iK a b (cu ab c<|ps.drop i)
def Qq(lo:Nat)(s:aX)(hs:eL s)(hk:s.aC=100){u0 u2 u3 u5 u6 u7 u8 u9:Zb}{b:Nat}{aG:Y5}(h:jE w G b aG K)(a1:lo<=w.heap.size)
 (hn:w.heap[n]?=some (.cells #[u0,qT s.table,u2,u3,A,u5,u6,u7,u8,u9] 111)){rb:Nat}(hc:Mn w rb s.d A):
 Zc prog 50 #[qP b,qP n] w (kT lo w G b<|dm K s):=by
 have av:=lB hn;have n1:=bC hn 1;have n4:=bC hn 4;simp at n1 n4;have HF:=Z<|Db s.table h;have HN:=Z hn;have HX:=Z h;have HC:=Z hc;generalize aV:dm K s=out;have I:=Z aV;have T:Ze (∀Q C,out=(K,di Q)->qB w C->kT lo w G b out (.returned<|.tuple #[qI 0,qI (Q:Nat)]) C):=λQ C ho X=>by rw[ho];exact⟨rfl,G,aG,ei.below h X⟩
 have al:Ze (∀C M' H D' (c:Int),out=(D',⟨[],c,0⟩)->ei lo w G b D' C M' H->kT lo w G b out (.returned<|.tuple #[qI c,qI 0]) C):=λC M' H D' c ho ad=>by rw[ho];exact⟨rfl,M',H,ad⟩
 generalize kT lo w G b out=bb at*;obtain⟨wa,rfl⟩:∃a,A=.pointer a:=by
  obtain⟨_,rfl⟩|⟨d,_,g⟩:=hc
  .exact⟨_,rfl⟩
  obtain⟨a,rfl⟩:=g.ptr d.1;exact⟨_,rfl⟩
 cases hta:bO K s.table with
 |none=>
  rw[hta]at HF;have d:=Z<|T 2 w (by rw[<-I];exact AF hta) qW;simp only[iA]at HF;go_in;go_wp2_with fail;apply qS HF;go_wp2;exact d
 |some i=>
  obtain⟨l,(HL:Ze _),(ai:Ze _),az⟩:=HX.d<|cx hta;rw[hta,az]at HF;have hT:=HX.c i l _ HL ai;have B:=HX.ok.2 _<|dS<|cx hta;obtain⟨cv,(F:Ze _),-⟩:=hT.q;have l0:=bC F 0;have l2:=bC F 2;simp at l0 l2;have ao:=lB F;obtain⟨ra,rc,(J:Ze _),bp⟩:=cz hT.rows;rw[J]at l2;have L:=Z hta;have aj:=Z hT;have aQ:=Z B;have bg:=B.d;have ae:Ze (∀W,qB w W->∀row u,((u=qN/\row=List.replicate (ak K i).a.length aE)\/(row.length=(ak K i).a.length/\br w w.heap.size 3 vC row u))->_):=λW V row u P=>Fv hT HX.lt B (ak K i).name P V;have ah:=Z<|xH (src:=(ak K i).name) B;go_in;go_wp2_with refine HF.mono ?_;rintro e y⟨rfl,rfl⟩
  go_upto_if 25 with fail
  go_cut [] (λwx=>Ze<|qB y wx/\aT (ax (ak K i).name<|ak K i) (aK s.d) 3=none)
  case first=>
   obtain⟨hw,j⟩|⟨g,O,r⟩:=HC.o
   .cases j;have d:Ze<|aT (ax (ak K i).name<|ak K i) (aK s.d) 3=none:=by rw[Ze,hw];exact oH _
    go_wp2;go_meet;exact⟨qW,d⟩
   obtain⟨Y,j⟩:=r.ptr g.1;cases j;have D:=Z<|ae y.drew qW.drew _ _<|.inl ⟨rfl,rfl⟩;have E:Ze (∀W t v,qB y W->mi W (ax (ak K i).name<|ak K i) (List.replicate (ak K i).a.length aE) v t->Zc prog 79 #[.pointer<|some Y,v,qI 3] t λe C=>∃x,e=.returned x/\(x=qI ((aT (ax (ak K i).name<|ak K i) (aK s.d) 3).getD 0:Nat)/\qB y C)):=λW t v V S=>by have X:qB y t:=V.trans<|S.2.1.mono V.size;rw[lg g];apply qR<|EO ah g O (by decide) (r.below X) S.c;intro C h;exact⟨_,rfl,rfl,X.trans<|h.mono X.size⟩
   have k:Ze<|qB y y.drew:=qW.drew;generalize N:aT (ax (ak K i).name<|ak K i) (aK s.d) 3=R at*;have o:=Z N;go_upto_region 5 with fail
   go_cut [7] (λs7 wx=>s7=qI ((R.getD 0:Nat):Int)/\Ze (qB y wx))
   case first=>
    go_region_law (first
     | (refine eN rfl (.tmp 30) (.tmp 34) (.const qN) rfl ki rfl rfl rfl D ?_
        rintro v3 U q;have p:=Z q;obtain⟨⟨a3,m3,c3,rfl⟩,-⟩:=q;have d:qB y U:=k.trans p.2.1;have bt:n<U.heap.size:=(by have:=d.size;omega);have bj:=(VK<|d.block n av).trans n4
        clear d)
     | (refine eN rfl (.tmp 29) (.tmp 35) (.const<|qI 3) rfl pI rfl rfl rfl (E _ _ _ k p) ?_
        rintro v4 w4⟨rfl,d⟩;have M:=Z d
        clear d))
    all_goals go_wp2_with fail
    all_goals go_meet
    all_goals exact⟨rfl,M⟩
   obtain⟨rfl,d⟩:=hcut;cases hoe2:R with
   |some Q=>
    have p:Q=2\/Q=3:=fu<|o.trans hoe2;have M:((Q:Int) != 0)=true:=by simp;omega
    have q:=Z<|T Q wc (by rw[<-I];exact AG L<|o.trans hoe2) d;simp only[W8];go_wp2;exact q
   |none=>
    have p:Ze<|R=none:=hoe2;simp only[W7];go_wp2;go_meet;exact⟨d,p⟩
  obtain⟨(aH:Ze _),(U:Ze _)⟩:=hcut.o;obtain⟨ty,(aS:Ze _),-⟩:=gv U;obtain⟨(M:Ze _),q,(am:Ze _)⟩:=Ex aj.o;have j:((ak K i).rows.zip l.us).length=(ak K i).rows.length:=by rw[<-Wd List.length M,VL]
  have HP:Ze (∀(k:Nat) (p:au),((ak K i).rows.zip l.us)[k]?=some p->l.us[k]?=some p.2/\aZ (ax (ak K i).name<|ak K i) p.1):=λk p O=>by refine⟨by rw[<-q,df,VO,O];rfl,(aQ.rows p.1 ?_).src⟩;rw[<-M];exact V0<|VY O
  have aN:Ze<|(ax (ak K i).name<|ak K i).length=(ak K i).a.length:=cH _ _;generalize r:(ak K i).rows.zip l.us=o at*;generalize g:ax (ak K i).name (ak K i)=ab at*;have ag:=Z j;have d:=Z g;have a3:o.length<=25:=by omega
  have aO:Ze<|Ph y wc ab (aK s.d) o 0 qN [] []:=⟨aH,VP _ _ _ _,λ_=>rfl,rfl,by simp;cases cu ab (aK s.d) o<;>simp[iK]⟩;obtain⟨i0,a0,a6,a7,a8⟩:=V5 iN;rw[<-j]at l2;clear q r g hcut j;go_wp2
  go_loopw [8,9] (λs8 s9 wr=>∃(k:Nat) (a b:YZ),k<=o.length/\s9=qI k/\Ze (Ph y wr ab (aK s.d) o k s8 a b)) (λ_ s9 _=>o.length-(Zk s9).toNat)
  exact⟨0,[],[],qO,rfl,aO⟩;obtain⟨k,a,D,bn,rfl,q⟩:=hrel;have t:=q.d;have ar:=bB t av HN;have m4:=bC ar 4;simp at m4;have aw:=lB ar;have Y:=bB t ao F;have j0:=bC Y 0;have j2:=bC Y 2;simp at j0 j2;rw[J,<-ag]at j2;have ap:=lB Y;obtain⟨va,vn,a5,bq⟩:=cz q.own;subst a5;by_cases aa:k<o.length
  ·have ay:o[k]?=some o[k]:=VE aa;have S:Ze<|o.drop k=o[k]::o.drop (k+1):=VJ aa;have aq:=VQ aa;generalize o[k]=p at*;obtain⟨a4,aA⟩:=HP.o k p ay;obtain⟨g,_,he,_,aY,e0⟩:=dA (aB t aj.rows) a4;rw[J]at he;cases he;obtain⟨pr,pv⟩:=p;have aC:=am.o _ aq;obtain⟨pa,pn,pc,rfl⟩:=aF aC.1;have aL:=Z<|ae wr.drew t.drew pr (.slice pa pn pc)<|.inr ⟨aA.1.trans aN,c7 (f:=vC) (λ_=>rfl) aC.1 qZ⟩;obtain⟨tb,te,aD⟩:=oR<|bZ ab pr<|aK s.d;have aM:Ze (∀W W' v,qB y W->mi W ab pr v W'->Zc prog 82 #[.pointer wa,v] W' λe C=>∃x,e=.returned x/\(x=.tuple #[.bool tb,qI (te:Nat)]/\qB W C)):=λW W' v V O=>by
    have X:qB y W':=V.trans<|O.2.1.mono V.size;apply qR<|D9 aA ah.1 aS (HC.below X) O.c;intro C h;exact⟨_,rfl,aD,O.2.1.trans<|h.mono O.2.1.size⟩
   have aJ:Ze<|qB y wr.drew:=t.drew;have aR:=Z aD;have bo:(k:Int)<(o.length:Int):=by omega
   have bi:=Z ay;go_upto_region 12 with fail
   go_cut [10,11]from 40 to 84 (λa9 ba wx=>a9=.bool tb/\ba=qI (te:Nat)/\Ze (qB wr wx))
   case first=>
    go_region_law (first
     | (refine eN rfl (.tmp 54) (.tmp 58) (.tmp 65) rfl ki rfl rfl rfl aL ?_
        rintro v3 R E;have r:=Z E;obtain⟨⟨bv,m3,c3,rfl⟩,-⟩:=E;have j:qB wr R:=qW.drew.trans r.2.1;have bu:n<R.heap.size:=(by have:=j.size;omega);have bk:=(VK<|j.block n aw).trans m4
        clear j)
     | (refine dQ rfl (.tmp 53) (.tmp 66) rfl C7 rfl rfl (aM _ _ _ aJ r) ?_
        rintro v4 w4⟨rfl,j⟩;have N:=Z j
        clear j))
    all_goals go_wp2_with fail
    all_goals go_meet
    all_goals exact⟨rfl,rfl,qW.drew.trans N⟩
   obtain⟨rfl,rfl,r⟩:=hcut;have E:=Z<|q.d.trans<|r.mono t.size;obtain⟨N,rfl⟩|⟨rfl,x,N,hx⟩:=tB aR
   .have R:((te:Int) != 0)=true:=by have:=jc N;simp;omega
    have j:=Z (T te wc (by
     rw[<-I];refine AH L (d▸U) ?_
     rw[d,<-M,fE,q.e,S,rS N];rfl) E)
    go_wp2;exact j
   have af:=Z N;cases tb with
   |true=>
    have j:Ze<|Ph y wc ab (aK s.d) o (k+1) (.slice va D.length vn) (a++[(pr,.slice pa pn pc)]) D:=⟨E,aB r q.own,q.nil,by have:=q.len;simp;omega,by rw[q.e,S];exact rT af<|hx.1 rfl⟩;go_wp2;go_roundw;exact⟨k+1,_,_,by omega,by go_num,j⟩;simp[Zk];omega
   |false=>
    have R:=aB r q.own;have an:=bB r ap<|bB q.d ao F;have y2:=bC an 2;simp at y2;rw[J,<-ag]at y2;have be:=lB an;have e9:=(VK<|r.block g aY).trans e0;have bd:g<wc.heap.size:=by have:=r.size;omega
    have bs:=E.size;have aU:Ze<|¬x=bh true:=λe=>by simpa using hx.2 e
    have bm:D.length<=25:=by have:=q.len;omega
    go_wp2_with (at_builtin;refine VS _ rfl (.tmp 75) (.tmp 83) 29 rfl y.heap.size 32 i0 _ 1 24 underlying29 a0 a6 a7 a8 rfl (by decide) _ _ _ rfl (R.alloc _) ⟨wc.heap.size,0,none⟩ 1 1 [.slice pa pn pc] rfl rfl ?c1 ?c2 ?c3 ?c4 ?c5 ?_);try (case c1=>exact cW wc [.slice pa pn pc] 32)
    case c2=>rfl
    case c3=>unfold Zj;omega
    case c4=>omega
    case c5=>omega
    intro v' w4 ac aW bf;have aP:Ze<|Ph y w4 ab (aK s.d) o (k+1) v' a<|D++[(pr,.slice pa pn pc)]:=⟨a_ (E.alloc E.size _) aW (λj hj=>(R.lt j hj).1) (by simp;omega),by simpa[df]using ac,λe=>by simp at e,by have:=q.len;simp;omega,by rw[q.e,S];exact uX af aU⟩;go_wp2;go_roundw;exact⟨k+1,_,_,by omega,by go_num,aP⟩;simp[Zk];omega
  obtain rfl:k=o.length:=by omega
  have hz:cu ab (aK s.d) o=.ok (a,D):=by rw[q.e,Wa];simp[cu,iK]
  obtain⟨_,E,a2⟩:=me hz
  have N:ec<|cm K i<|D.map (·.1):=HX.ok.set (cx L) (by simp at a2 ⊢;omega) (λr P=>by
   obtain⟨p,O,rfl⟩:=VV.1 P;obtain⟨j,x⟩:=Wn.1<|E p O;have:=(HP j p x).2;rw[<-d]at this
   exact this.c)
  obtain ⟨⟨bl,g⟩,ad⟩:=GK (rows:=D.map (·.1)) (us:=df D) (v':=.slice va D.length vn) HX.o HL.o ai.o t (by rw [VL];exact q.o.own) (λe=>q.o.nil<|Xs.1 e) (λj r u P S=>by
   rw[VO]at P;unfold df at S;rw[VO]at S;cases x:D[j]? with
   |none=>rw[x]at P;cases P
   |some p=>
    rw[x]at P S;cases P;cases S;have R:=am.o p<|E p<|VY x
    exact(R.aL (λk hk=>hk) λk hk=>t.block k (R.1.lt k hk).2).aL (λk hk=>.inl hk) (λk _=>rfl)) N
  have bc:(o.length:Int)-(D.length:Int)=(a.length:Int):=by have:=q.len;omega
  have HE:=Z (al _ _ _ _ a.length (by
   rw[<-I];have:=AJ (z:=(a.map (·.1),D.map (·.1))) L (d▸U) (by rw[d,<-M,fE,hz];rfl)
   simpa using this)<|ad.low a1)
  have s2:=bC g 2;have sf:=bF g 2;simp at s2;have sz:=lB g;go_wp2;exact HE
