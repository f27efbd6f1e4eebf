import Derived.KernelRfl
import Derived.Test.YtojdpjpldokjmaaGreatDoorC26
set_option maxHeartbeats 0
set_option maxRecDepth 100000
set_option linter.all false
namespace Go.Proofs.YtojdpjpldokjmaaGreatDoor
open Go.Deep Go.RowKit Tryz
open Go renaming Value->Zb
open RowKit renaming Hid->Ze
variable{W w:World}{i k n:Nat}{G:Y7}
def C9:YX:=[67,82,69,65,84,69,32,84,65,66,76,69,32,116,32,40,97,32,73,78,84,44,32,98,32,84,69,88,84,41]
def C_:YX:=[73,78,83,69,82,84,32,73,78,84,79,32,116,32,86,65,76,85,69,83,32,40,49,44,32,39,120,39,41]
def ns:aI:=[⟨[116],[([97],1),([98],2)],[]⟩]
def nZ:aI:=[⟨[116],[([97],1),([98],2)],[[⟨1,1,[]⟩,⟨2,0,[120]⟩]]⟩]
def AY:fx [] C9=(ns,di 0):=by kernel_rfl
def AZ:fx ns C_=(nZ,⟨[],1,0⟩):=by kernel_rfl
def Iw:∀s,bp C9=some s->s.aC=99\/s.aC=105:=by
 have h:(bp C9).map (·.aC)=some 99:=by kernel_rfl
 intro s hs;rw[hs]at h;simp at h;exact .inl h
def Ix:∀s,bp C_=some s->s.aC=99\/s.aC=105:=by
 have h:(bp C_).map (·.aC)=some 105:=by kernel_rfl
 intro s hs;rw[hs]at h;simp at h;exact .inr h
structure Ta where
 aC:Int
 a:Int
 n:Int
 s:YX
def CN(w:World)(ops:List Ta)(v:Zb):Prop:=∃a c,v=.slice a ops.length c/\(ops≠[]->∃p:Addr,a=some p/\p.block<w.heap.size/\∀(i:Nat) x,ops[i]?=some x->w.cell? (p.add<|i*4)=some (qI x.aC)/\w.cell? (p.add<|i*4+1)=some (qI x.a)/\w.cell? (p.add<|i*4+2)=some (qI x.n)/\w.cell? (p.add<|i*4+3)=some (qT x.s))
def CN.below{b:List Ta}{v:Zb}(h:CN w b v)(e:qB w W):CN W b v:=by obtain⟨a,c,g,j⟩:=h;refine⟨a,c,g,λn=>?_⟩;obtain⟨p,k,d,l⟩:=j n;have hk:∀m,W.cell? (p.add m)=w.cell? (p.add m):=λm=>e.cell (by rw[KU];exact d);exact⟨p,k,VT d e.size,λi x o=>by rw[hk,hk,hk,hk];exact l i x o⟩
def DT(a:Addr)(m j:Nat)(b:0<j):(⟨(a.add m).block,(a.add m).off+j,none⟩:Addr)=a.add (m+j):=by
 unfold Addr.add;rw[VF (show ¬m+j=0 by omega)];split
 .rename_i h;subst h;simp
 simp;omega
def rh.below(h:rh w)(a:qB w W):rh W:=
 ⟨h.spell.below a,h.err.below a,h.rules.aL<|a.block _ h.a,VT h.a a.size,h.pow.aL<|a.block _ h.pow.lt⟩
def Zl:qT C9=.string ⟨#[67,82,69,65,84,69,32,84,65,66,76,69,32,116,32,40,97,32,73,78,84,44,32,98,32,84,69,88,84,41]⟩:=rfl
def Zm:qT C_=.string ⟨#[73,78,83,69,82,84,32,73,78,84,79,32,116,32,86,65,76,85,69,83,32,40,49,44,32,39,120,39,41]⟩:=rfl
def kN.start(w:World)(e:rh w)(l:kM w):∃jx S,kN w.heap.size w (w.alloc<|lp 0 qN qN qN λ_=>qN) jx S w.heap.size 0 qN []:=by
 have b:∀k,Gl k->k<w.heap.size:=λk hk=>by
  obtain rfl|rfl|rfl|rfl|rfl|rfl:=hk
  .exact e.a
  .exact e.spell.lt
  .exact e.err.lt
  .exact e.pow.lt
  .exact l.c _<|.inr<|.inl rfl
  exact l.c _<|.inr<|.inr rfl
 have o:∀k,Decidable<|Gl k:=λk=>Classical.propDecidable _;refine⟨λk=>@ite _ (Gl k) (o k) (-1) (if k<w.heap.size then -5 else -2),λk=>LS w.heap.size (λ_=>False) (λ_=>qN) k\/HB qN [] k,qA,by simp,λk hk=>?_,⟨λ_=>False,_,_,λ_=>qN,λ_=>[],[],[],0,0,⟨⟨aM _ _,λc q=>nG,λc d k _ _ h=>(by cases h),λk hk=>hk.elim,λc j v _ n=>(by simp at n)⟩,⟨rfl,rfl,rfl,rfl⟩,⟨nG,⟨by simp,.nil⟩,by simp,by simp⟩,⟨nG,by simp⟩,λk hk=>absurd hk<|uT k,rfl,λk hk=>absurd hk<|uT k,λk=>Iff.rfl,by simp⟩⟩,nG,λi p a=>(by simp at a),λk hk=>?_,λk hk=>?_,λk hk=>(by cases hk),λi p a=>(by simp at a),λi p a=>(by simp at a),λi p a=>(by simp at a)⟩
 .obtain h|h:=Classical.em (Gl k)
  .exact .inr<|VG h
  exact .inl (by show @ite _ (Gl k) _ _ _=_;rw[VF h,VG hk])
 .exact⟨VG hk,by have:=b k hk;simp;omega⟩
 have g:k=w.heap.size:=by
  obtain(h|h|⟨_,_,h⟩)|h:=hk
  .exact h
  .exact h.elim
  .cases h
  exact absurd h<|uT k
 subst g;show @ite _ (Gl _) _ _ _=_;rw[VF (λh=>by have:=b _ h;omega),VF<|by omega]
def kN.first{t:Nat->Int}{b l:Nat}{o:List Pr}(h:kN n W w t G k i (qL b 2 l) o){p:Pr}(d:o[0]?=some p):k<w.heap.size/\w.cell? ⟨k,4,none⟩=some (qL b 2 l)/\b<w.heap.size/\w.cell? ⟨b,0,none⟩=some (qP p.a)/\p.a<w.heap.size/\w.cell? ⟨p.a,0,none⟩=some (qP p.b)/\w.cell? ⟨p.a,1,none⟩=some (qP p.c):=by obtain⟨g,_,e,_,r,c⟩:=dA h.row (j:=0) (u:=pR p) (by rw[VO,d];rfl);injection e with e1 e2 e3;cases e1;obtain⟨_,x,z,y,a,_⟩:=h.law.box;have q:=bC a 4;have c0:=bC (h.each 0 p d).box 0;have c1:=bC (h.each 0 p d).box 1;simp at q c0 c1;exact⟨lB a,q,r,c,lB (h.each 0 p d).box,c0,c1⟩
def aar(L:lL)(X:dD)(Y:mH)(HU:E6)(HO:vS){g:List Ta}{v:Zb}(hv:CN w g v)(be:g.length<=1048576)(a2:∀x∈g,bK x.a/\x.s.length<=1048576)(hg:rh w)(hs:kM w):
 Calls prog 13 #[v,qI 3] w (qF (.bool true) w):=by
 obtain⟨a_,S0,aR⟩:=kN.start w hg hs;have HV:=Z hv;have o:=Z L;have d:=Z X;have am:=Z Y;have P:=Z HU;have N:=Z HO;have aF:=Z a2;have U:qB w<|w.alloc<|lp 0 qN qN qN λ_=>qN:=qA;obtain⟨va,vc,rfl,_⟩:=hv;have HG:=Z hg;have HS:=Z hs;have bh:=Z U;go_in;go_wp2_with fail;apply qR<|Z<|Jb aR (hg.below U) (hs.below U) (by simp);rintro w1⟨ba,bg,s1,R⟩;go_wp2_with fail;apply qR<|Z<|Jb R (HG.below R.d) (HS.below R.d) (by simp);rintro w2⟨jx,a8,s2,r⟩;obtain⟨p,q,y,a3,(aG:Ze _),(aH:Ze _),(aL:Ze _),(ah:Ze _),(n:Ze _),(HQ:Ze _)⟩:∃(p q:Pr) (y:List Pr),[]++[sQ s1]++[sQ s2]=y/\p.D=[]/\p.E=[]/\q.D=q.E/\y.length=2/\y[0]?=some p/\y[1]?=some q:=⟨sQ s1,sQ s2,_,rfl,rfl,rfl,rfl,rfl,rfl,rfl⟩;rw[a3]at r;obtain⟨gp,pc,e,-⟩:=dA r.row (j:=0) (u:=pR p) (by rw[VO,n];rfl);rw[ah]at e;subst e;obtain⟨t1,t2,t3,t4,t5,t6,t7⟩:=r.first n;have I:=Z<|Ng o d (r.each 0 p n).live (by decide)<|ve d P N (r.each 0 p n).live.ex.a.ok C9;rw[aG,AY]at I;rw[Zl]at I;have HW:=Z r;go_wp2_with refine I.mono ?_;rintro e w3⟨rv,M1,i,rfl,D,a0⟩;obtain⟨r1,c1,ac⟩:∃a c,rv=.slice a 0 c:=a0.slice;subst ac;obtain⟨bb,aS⟩:=HW.q n ⟨D.aL,D.new⟩<|((HW.each 0 p n).live).step D;have C:(y.set 0 ⟨p.a,p.b,p.c,M1,p.R,i,p.d,ns,p.E⟩)[0]?=some ⟨p.a,p.b,p.c,M1,p.R,i,p.d,ns,p.E⟩:=by rw[Wq,VG rfl,VG<|bw n]
 have a4:(y.set 0 ⟨p.a,p.b,p.c,M1,p.R,i,p.d,ns,p.E⟩)[1]?=some q:=by rw[Wq,VF<|by omega];exact HQ
 have aX:(y.set 0 ⟨p.a,p.b,p.c,M1,p.R,i,p.d,ns,p.E⟩).length=2:=by rw[Wu];exact ah
 generalize y.set 0 ⟨p.a,p.b,p.c,M1,p.R,i,p.d,ns,p.E⟩=F at*;have aD:Ze (∀k,M1 k->k<w3.heap.size):=D.a.lt;have aV:qB w3<|w3.alloc<|.cells #[.slice r1 0 c1,qI (di 0).count] 36:=qA;have hA:=aM w3<|.cells #[.slice r1 0 c1,qI (di 0).count] 36;go_upto_region 7 with fail
 generalize w3.alloc (.cells #[.slice r1 0 c1,qI (di 0).count] 36)=w4 at*;have z:=aS.below aV;generalize w3.heap.size=A at*;have av:=lB hA;have HA:=Z hA;obtain⟨t1,t2,t3,t4,t5,t6,t7⟩:=z.first C;have J:=Z<|Ng o d (z.each 0 _ C).live (by decide)<|ve d P N (z.each 0 _ C).live.ex.a.ok C_;rw[AZ]at J;rw[Zm]at J;have ap:=Z z;have O:=Z C;have aI:=Z a4;have aB:=Z aX;simp only at t4 t5 t6;go_wp2_with refine J.mono ?_;rintro e w5⟨rv,t,b,rfl,E,a1⟩;obtain⟨r2,c2,ac⟩:∃a c,rv=.slice a 0 c:=a1.slice;subst ac;obtain⟨bc,aT⟩:=ap.q O ⟨E.aL,E.new⟩<|((ap.each 0 _ O).live).step E;have aa:(F.set 0 ⟨p.a,p.b,p.c,t,p.R,b,p.d,nZ,p.E⟩)[0]?=some ⟨p.a,p.b,p.c,t,p.R,b,p.d,nZ,p.E⟩:=by rw[Wq,VG rfl,VG<|bw O]
 have a5:(F.set 0 ⟨p.a,p.b,p.c,t,p.R,b,p.d,nZ,p.E⟩)[1]?=some q:=by rw[Wq,VF<|by omega];exact aI
 have aY:(F.set 0 ⟨p.a,p.b,p.c,t,p.R,b,p.d,nZ,p.E⟩).length=2:=by rw[Wu];exact aB
 have aP:w5.heap[A]?=_:=(E.aL.block A ⟨av,λhm=>by have:=aD.o A hm;omega⟩).trans HA;generalize F.set 0 ⟨p.a,p.b,p.c,t,p.R,b,p.d,nZ,p.E⟩=G at*;have aW:qB w5<|w5.alloc<|.cells #[.slice r2 0 c2,qI 1] 36:=qA;have hB:=aM w5<|.cells #[.slice r2 0 c2,qI 1] 36;have au:=bA aP<|.cells #[.slice r2 0 c2,qI 1] 36;go_upto_region 8 with fail
 generalize w5.alloc (.cells #[.slice r2 0 c2,qI 1] 36)=w6 at*;have T:=aT.below aW;generalize w5.heap.size=B at*;have bi:=bC au 1;have e1:=bC hB 1;have av:=lB au;have bj:=lB hB;simp[di]at bi e1;obtain⟨t1,t2,t3,t4,t5,t6,t7⟩:=T.first aa;have K:=Z<|J_ C9 (by decide) Iw (T.each 0 _ aa).ref;rw[aH,AY]at K;rw[Zl]at K;have aN:=Z T;have ak:=Z aa;have aJ:=Z a5;have aC:=Z aY;simp only at t4 t5 t7;go_wp2_with fail;apply qR K;rintro w7⟨R7,l,ad⟩;obtain⟨bd,(Q:Ze _)⟩:=aN.y ak ⟨ad.aL,ad.new⟩ ad.a;have ab:(G.set 0 ⟨p.a,p.b,p.c,t,R7,b,l,nZ,ns⟩)[0]?=some ⟨p.a,p.b,p.c,t,R7,b,l,nZ,ns⟩:=by rw[Wq,VG rfl,VG<|bw ak]
 have a6:(G.set 0 ⟨p.a,p.b,p.c,t,R7,b,l,nZ,ns⟩)[1]?=some q:=by rw[Wq,VF<|by omega];exact aJ
 have aZ:(G.set 0 ⟨p.a,p.b,p.c,t,R7,b,l,nZ,ns⟩).length=2:=by rw[Wu];exact aC
 generalize G.set 0 ⟨p.a,p.b,p.c,t,R7,b,l,nZ,ns⟩=bo at*;obtain⟨t1,t2,t3,t4,t5,t6,t7⟩:=Q.first ab;have M:=Z<|J_ C_ (by decide) Ix (Q.each 0 _ ab).ref;rw[AZ]at M;rw[Zm]at M;have al:=Z ab;have aK:=Z a6;have ai:=Z aZ;simp only at t4 t5 t7;go_wp2_with fail;apply qR M;rintro w8⟨R8,bf,ae⟩;obtain⟨ar,aU⟩:=Q.y al ⟨ae.aL,ae.new⟩ ae.a;have aE:Ze<|ni w.heap.size w w8 w.heap.size 0 2:=by
  refine⟨ar,_,_,_,aU,by rw[Wu];exact ai,λj x W=>?_⟩;obtain⟨rfl,rfl⟩|⟨hj,H⟩:=mF al.o W
  .rfl
  have V:j<2:=by have:=bw H;rw[ai]at this;exact this
  have S:j=1:=by omega
  subst S;rw[aK]at H;cases H;exact aL
 go_wp2
 go_loopw [12] (λaf wr=>∃k:Nat,k<=g.length/\af=qI (k:Nat)/\Ze (∃h len,h<=k/\2<=len/\len<=k+2/\ni w.heap.size w wr w.heap.size h len)) (λaf _=>g.length-(intOf af).toNat)
 exact⟨0,qO,rfl,0,2,by omega,by omega,by omega,aE⟩
 case round=>
  obtain⟨k,hk,rfl,HI⟩:=hrel;obtain⟨h,len,h1,h3,h4,jx,S,a8,y,r,H,ax⟩:=HI.o;by_cases W:k<g.length
  .have ay:g[k]?=some g[k]:=VE W;have V:=aF.o _<|VQ W;generalize g[k]=x at*;obtain⟨_,_,e,hc⟩:=HV.below r.d;cases e;obtain⟨aO,rfl,bk,j⟩:=hc (by rintro rfl;simp at W);obtain⟨d0,d1,d2,d3⟩:=j k x ay;rw[<-DT aO (k*4) 1 (by omega)]at d1;rw[<-DT aO (k*4) 2 (by omega)]at d2;rw[<-DT aO (k*4) 3 (by omega)]at d3;have an:=Z<|aay o d am P N x.aC x.a x.n x.s V.1 V.2 r ax (by omega) (by omega) (by omega);have bl:(k:Int)<(g.length:Int):=by omega
   rw[H]at an;have HH:=Z<|And.intro h1<|And.intro h3 h4;clear ay V hc j r ax H HI h1 h3 h4;go_wp2_with fail;apply qR an;rintro w9⟨H,az,g1,g3,g4,aq,S',aA,a7,(ao:Ze _),V,(ag:Ze _)⟩;obtain⟨F9,bm,bs,bq,bn,bp,br,n9,m9,aQ⟩:=ao.law;have j:=Z<|And.intro g1<|And.intro g3<|And.intro g4 V;go_wp2_with fail;refine qR (Z<|Sp aQ (by have:=HH.o;omega)) ?_;intro a9 aw;have aj:Ze (∃h len,h<=k+1/\2<=len/\len<=k+1+2/\ni w.heap.size w a9 w.heap.size h len):=⟨H,az,by have:=HH.o;have:=j.o;omega,by have:=HH.o;have:=j.o;omega,by have:=HH.o;have:=j.o;omega,aq,S',aA,a7,ao.below aw,j.2.2.2,ag⟩;go_wp2;go_roundw;exact⟨k+1,by omega,by go_num,aj⟩;simp[intOf];omega
  obtain rfl:k=g.length:=by omega
  go_wp2;go_ret;exact⟨rfl,Z r.d⟩
def aaB(L:lL)(X:dD)(Y:mH)(h:E6)(g:vS){a:List Ta}{v:Zb}(d:CN w a v)(b:a.length<=1048576)(c:∀x∈a,bK x.a/\x.s.length<=1048576)(i:rh w)(j:kM w):
 Calls prog 5 #[v] w (qF (.bool true) w):=by
 have e:=Z<|aar L X Y h g d b c i j;obtain⟨k,l,rfl,_⟩:=d;go_in;go_wp2_with fail;apply qR e;intro n (HB:Ze _);go_wp2;go_ret;exact⟨rfl,HB⟩
