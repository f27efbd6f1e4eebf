import Derived.Test.YtojdpjpldokjmaaGreatDoorC17
set_option maxHeartbeats 0
set_option maxRecDepth 100000
set_option linter.all false
namespace Go.Proofs.YtojdpjpldokjmaaGreatDoor
open Go.Deep Go.RowKit Tryz
open Go renaming World->Za,Value->Zb,Calls->Zc
open RowKit renaming Below->Zd,Hid->Ze,intOf->Zk
variable{i k n:Nat}{w:World}{X Y:YX}{G:Y7}{I:YW}{K:aI}
def lT:∀(f n:Nat)(a:YX),gH f n a=gH f n []++a
 |0,_,a=>by simp[gH]
 |f+1,n,a=>by
  unfold gH;split
  .rfl
  rw[lT f (n / 10)<|_::a,lT f (n / 10) [_]];simp
def ue:∀(f n:Nat),n<10 ^ (f+1)->gH (f+2) n []=gH (f+1) n []
 |0,n,h=>by unfold gH;rw[VG<|by omega,VG<|by omega]
 |f+1,n,h=>by
  conv=>lhs;unfold gH
  conv=>rhs;unfold gH
  split
  .rfl
  rw[lT,lT<|f+1,ue f (n / 10) (by rw[XK]at h;exact XI<|by omega)]
def Ip(h:n<10):gV n=[UInt8.ofNat<|48+n]:=by unfold gV gH;rw[VG h]
def FF(h:¬n<10)(a:n<10 ^ 20):gV n=gV (n / 10)++[UInt8.ofNat<|48+n % 10]:=by
 unfold gV
 conv=>lhs;unfold gH
 rw[VF h,lT];rw[ue 18 (n / 10)<|XI<|by omega]
def M_(h:n<10):(⟨#[48,49,50,51,52,53,54,55,56,57]⟩:Y9).extract n (n+1)=⟨#[UInt8.ofNat<|48+n]⟩:=by
 match n,h with
 |0,_=>rfl|1,_=>rfl|2,_=>rfl|3,_=>rfl|4,_=>rfl|5,_=>rfl|6,_=>rfl|7,_=>rfl|8,_=>rfl|9,_=>rfl
def La(h:n<10):Zc prog 141 #[qI (n:Nat)] w<|qE (qT<|gV n) w:=by rw[Ip h];go_in;go_wp2;go_ret;exact⟨i5 (by rw[Nat.mod_eq_of_lt h];exact Z<|M_ h),rfl⟩
def Iq(h:¬n<10)(j:n<=9223372036854775807)(e:Zc prog 141 #[qI ((n / 10:Nat):Int)] w<|qE (qT<|gV<|n / 10) w):Zc prog 141 #[qI (n:Nat)] w<|qE (qT<|gV n) w:=by
 rw[FF h<|by omega];have b:=Z<|M_ (show n % 10<10 from Yx _ (by omega));have i:=(tx (n:=n / 10)<|by omega).2.2.2;have c:=Z e;generalize gV (n / 10)=d at*;have a:((⟨#[48,49,50,51,52,53,54,55,56,57]⟩:Y9).extract (n % 10)<|n % 10+1).size=1:=by rw[b];rfl
 have g:=Z a;go_in;go_upto_region 4 with fail
 rw[b];go_wp2_with fail;apply qS c;go_wp2;go_ret;exact⟨i5 (by rw[PI];exact jZ d [UInt8.ofNat<|48+n % 10]),rfl⟩
def J8:∀(n:Nat),n<=9223372036854775807->∀(w:Za),Zc prog 141 #[qI (n:Nat)] w<|qE (qT<|gV n) w:=by
 intro n
 induction n using Nat.strongRecOn with
 |ind n ih=>
  intro a w;by_cases h:n<10
  .exact La h
  exact Iq h a<|ih (n / 10) (by omega) (by omega) w
def Lb(k:Nat)(d:0<k)(b:k<=9223372036854775807)(w:Za):Zc prog 141 #[qI<|-(k:Int)] w<|qE (qT<|45::gV k) w:=by have a:=Z<|J8 k b w;have e:=(tx (n:=k)<|by omega).2.2.2;generalize gV k=c at*;go_in;go_wp2_with fail;apply qS a;go_wp2;go_ret;exact⟨i5<|M7 _ _,rfl⟩
def Hr{v:ai}(h:v.aC=1):aS v=fj v.n:=by unfold aS;rw[VG h]
def JU{v:ai}(h:dv v)(b:v.aC=1):Zc prog 90 #[oK v] w<|qF (qT<|aS v) w:=by
 rw[Hr b];have g:=h.range;have HB:Ze (∀o,qB w<|w.alloc o):=λo=>qA;obtain⟨k,n,s⟩:=v;simp only at b g;subst b;unfold oK;simp only;generalize (⟨s.toArray⟩:Y9)=i;by_cases a:n=-9223372036854775808
 .subst a;have c:fj (-9223372036854775808)=[45,57,50,50,51,51,55,50,48,51,54,56,53,52,55,55,53,56,48,55,32,45,32,49]:=by rw[fj,VG rfl]
  rw[c];go_in;go_wp2;go_ret;exact⟨rfl,HB _⟩
 have l:(n == -9223372036854775808)=false:=by simp[a]
 by_cases c:n<0
 ·obtain ⟨k,rfl⟩:∃k:Nat,n=-(k:Int):=⟨(-n).toNat,by omega⟩;have e:fj (-(k:Int))=45::gV k:=by
   unfold fj;rw[VF a,VG c]
   congr 2
   omega
  rw[e];have d:=Z λW=>Lb k (by omega) (by omega) W;generalize (45::gV k)=j at*;go_in;go_wp2_with fail;apply qS<|d _;go_wp2;go_ret;exact⟨rfl,HB _⟩
 obtain⟨k,rfl⟩:∃k:Nat,n=(k:Int):=⟨n.toNat,by omega⟩;have e:fj (k:Int)=gV k:=by
  unfold fj;rw[VF a,VF c]
  congr 1
 rw[e];have d:=Z λW=>J8 k (by omega) W;generalize gV k=j at*;go_in;go_wp2_with fail;apply qS<|d _;go_wp2;go_ret;exact⟨rfl,HB _⟩
def EV{v:ai}(c:dv v)(a:v.aC=0\/v.aC=3):Zc prog 90 #[oK v] w<|qF (qT<|aS v) w:=by
 have HB:Ze (∀o,qB w<|w.alloc o):=λo=>qA;obtain⟨k,n,s⟩:=v;simp only at a;unfold oK;simp only;generalize (⟨s.toArray⟩:Y9)=d;obtain rfl|rfl:=a
 .rw[show aS ⟨0,n,s⟩=[78,85,76,76] by unfold aS;simp];go_in;go_wp2;go_ret;exact⟨rfl,HB _⟩
 have b:n=0\/n=1:=by obtain h|h|h|h:=c<;>simp at h<;>omega
 obtain rfl|rfl:=b
 .rw[show aS ⟨3,0,s⟩=[70,65,76,83,69] by unfold aS;simp];go_in;go_wp2;go_ret;exact⟨rfl,HB _⟩
 rw[show aS ⟨3,1,s⟩=[84,82,85,69] by unfold aS;simp];go_in;go_wp2;go_ret;exact⟨rfl,HB _⟩
def Nj(l:YX)(h:i<l.length):(⟨l.toArray⟩:Y9).extract i (i+1)=⟨[l[i]].toArray⟩:=D1 ⟨l.toArray⟩ i h
def Jj(l:YX)(c:UInt8):cT (l++[c])=cT l++if c=39 then [39,39]else [c]:=by
 induction l with
 |nil=>simp[cT]
 |cons a r ih=>
  simp only[WU,cT,ih];split<;>simp
def Uq(l:YX):(cT l).length<=2*l.length:=by
 induction l with
 |nil=>simp[cT]
 |cons a r ih=>simp only[cT];split<;>simp<;>omega
def Hx{v:ai}(B:dv v)(r:v.aC=2):Zc prog 90 #[oK v] w<|qF (qT<|aS v) w:=by
 have HB:Ze (∀o,qB w<|w.alloc o):=λo=>qA;obtain⟨k,n,s⟩:=v;simp only at r;subst r;have E:s.length<=40:=by obtain h|h|h|h:=B<;>simp at h<;>omega
 rw[show aS ⟨2,n,s⟩=39::(cT s++[39]) by unfold aS;simp];unfold oK;simp only;go_in;go_upto_region 5 with fail
 generalize q:w.alloc (.cells #[qI 2,qI n,qT s] 34)=F at*;have p:=aM w<|.cells #[qI 2,qI n,qT s] 34;rw[q]at p;have d:=Z<|HB<|.cells #[qI 2,qI n,qT s] 34;rw[q]at d;have C:=lB p;have G:=bC p;go_wp2
 go_loop [3,4] (λa b=>∃i:Nat,i<=s.length/\a=qT (39::cT (s.take i))/\b=qI i) (λ_ b=>s.length-(Zk b).toNat)
 exact⟨0,qO,by simp[cT],rfl⟩;obtain⟨i,hi,rfl,rfl⟩:=hrel;by_cases c:i<s.length
 ·have u:=Z<|Nj s c;have g:Ze<|cT (s.take<|i+1)=cT (s.take i)++if s[i]=39 then [39,39]else [s[i]]:=by
   unfold Ze;rw[V9,VE c];exact Jj _ _
  have A:=Uq<|s.take i;have z:(s.take i).length<=40:=by simp;omega
  go_upto_region 10 with fail
  rw[u,jZ];by_cases e:s[i]=39
  ·have l:((({data:=s.toArray}:Y9)[i]'c).toNat:Int)=39:=by
    show((s[i].toNat:Nat):Int)=39;rw[e];rfl
   have j:(((({data:=s.toArray}:Y9)[i]'c).toNat:Int)==39)=true:=by simp[l]
   have y:(((s[i].toNat:Nat):Int)==39)=true:=j;rw[VG e]at g;have t:Ze<|({data:=(39::cT (s.take i)++[s[i]]).toArray}:Y9)++{data:=#[39]}=⟨(39::cT (s.take<|i+1)).toArray⟩:=by unfold Ze;rw[g,e];have:=jZ (39::cT (s.take i)++[39]) [39];rw[this];simp
   have D:(39::cT (s.take i)++[s[i]]).length<=100:=by simp;omega
   generalize (39::cT (s.take i)++[s[i]])=x at*;go_wp2;go_round;exact⟨i+1,by omega,by rw[t],by go_num⟩;simp[Zk];omega
  have l:¬((({data:=s.toArray}:Y9)[i]'c).toNat:Int)=39:=by
   show ¬((s[i].toNat:Nat):Int)=39;intro h;apply e;apply Wg.1;have:s[i].toNat=39:=by omega
   rw[this];rfl
  have j:(((({data:=s.toArray}:Y9)[i]'c).toNat:Int)==39)=false:=by simp[l]
  have x:(((s[i].toNat:Nat):Int)==39)=false:=j;rw[VF e]at g;have t:Ze<|39::cT (s.take i)++[s[i]]=39::cT (s.take<|i+1):=by unfold Ze;rw[g];simp
  rw[t];go_wp2;go_round;exact⟨i+1,by omega,rfl,by go_num⟩;simp[Zk];omega
 obtain rfl:i=s.length:=by omega
 rw[Wj];have e:=Uq s;go_wp2;go_ret;exact⟨i5<|by simpa using(Z<|jZ (39::cT s) [39]).o,d.o⟩
def O8(v:ai)(a:dv v)(w:Za):Zc prog 90 #[oK v] w<|qF (qT<|aS v) w:=by
 have:=a.aC;by_cases b:v.aC=1
 .exact JU a b
 by_cases c:v.aC=2
 .exact Hx a c
 exact EV a<|by omega
def rC(a:YX):∀(l:List YX)(x:YX),dG a (l++[x])=if l=[]then x else dG a l++a++x
 |[],x=>rfl
 |[y],x=>by simp[dG]
 |y::z::r,x=>by have:=rC a (z::r) x;simp only[WU]at this ⊢;rw[dG,this];simp[dG]
def ej(head:YX)(xs:List YX)(k:Nat):YX:=head++dG [44,32] (xs.take k)
def wI(a:YX)(b:List YX):ej a b 0=a:=by simp[ej,dG]
def yU{a:List YX}(h:a[0]?=some Y):ej X a 1=ej X a 0++Y:=by unfold ej;rw[V9,h];simp[dG]
def wH{a:List YX}(d:0<k)(h:a[k]?=some Y):ej X a (k+1)=ej X a k++[44,32]++Y:=by
 unfold ej;rw[V9,h];have b:a.take k≠[]:=by intro e;have c:=Wd List.length e;have:=(VZ.1 h).1;rw[Wl]at c;simp only[WR]at c;omega
 rw[XV,rC,VF b];simp
def yT{head:YX}{xs:List YX}(d:head.length<=100)(b:∀x∈xs,x.length<=100)(e:xs.length<=5)(k:Nat):(ej head xs k).length<=700:=by unfold ej;have:=kC (m:=100) (xs.take k) λx a=>b x<|Wr a;simp only[VH,Wl]at this ⊢;have c:min k xs.length*(100+2)<=5*102:=YK (by omega) (by omega);omega
def je(name:YX):YX:=[67,82,69,65,84,69,32,84,65,66,76,69,32]++name++[32,40]
def iM(name:YX):YX:=[73,78,83,69,82,84,32,73,78,84,79,32]++name++[32,86,65,76,85,69,83,32,40]
def zL(t:bV):eG t=ej (je t.name) (t.a.map bM) t.a.length++[41,10]:=by unfold eG ej eD je;rw[VX<|by simp];simp
def BF(a:YX)(r:YW):dC a r=ej (iM a) (r.map aS) r.length++[41,10]:=by unfold dC ej eD iM;rw[VX<|by simp];simp
def C0(a b c:YX):((({data:=a.toArray}:Y9)++{data:=b.toArray})++{data:=c.toArray})=⟨(a++b++c).toArray⟩:=by rw[jZ,jZ]
def tQ.c{l:fG}{t:bV}(h:tQ w G l t){m:Nat}(r:t.rows[m]?=some I):∃g d u c n,l.a=qL g t.rows.length d/\g<w.heap.size/\w.cell? ⟨g,m,none⟩=some u/\u=.slice c I.length n/\∀(k:Nat)(v:ai),I[k]?=some v->∃q,c=some ⟨q,0,none⟩/\q<w.heap.size/\w.cell? ⟨q,k*3,none⟩=some (qI v.aC)/\w.cell? ⟨q,k*3+1,none⟩=some (qI v.n)/\w.cell? ⟨q,k*3+2,none⟩=some (qT v.s):=by
 have p:l.us.length=t.rows.length:=by have:=h.rows.1;omega
 have J:=bw r;have y:l.us[m]?=some (l.us[m]'(by omega)):=VE _;generalize l.us[m]'(by omega)=u at*;obtain⟨g,d,e,_,H,F⟩:=dA h.rows y;obtain⟨a,_⟩:=h.each m I u r y;obtain⟨c,n,rfl,_⟩:=cz a;refine⟨g,d,_,c,n,e,H,F,rfl,λk v i=>?_⟩;have b:∀j x,(vC v)[j]?=some x->(c_ I)[k*3+j]?=some x:=by
  intro j x o;have hk:=bw i;have C:c_ I=c_ (I.take k)++(vC v++c_ (I.drop<|k+1)):=by
   have D:I=I.take k++([v]++I.drop (k+1)):=by have:=VJ hk;rw[VE hk]at i;cases i;rw[aaD,<-this,WA]
   conv=>lhs;rw[D]
   rw[pS,pS,xE]
  have E:(c_<|I.take k).length=k*3:=by rw[kB,Wl];congr 1;omega
  rw[C,VW<|by omega,E,show k*3+j-k*3=j by omega,VU<|bw o];exact o
 obtain⟨q,_,z,_,K,c0⟩:=dA a<|b 0 _ rfl;obtain⟨L,_,A,_,_,c1⟩:=dA a<|b 1 _ rfl;obtain⟨M,_,B,_,_,c2⟩:=dA a<|b 2 _ rfl;cases z;cases A;cases B;exact⟨q,rfl,K,c0,c1,c2⟩
def UA{F:Y5}(h:jE w G n F K):
 Zc prog 56 #[.pointer<|some ⟨n,0,none⟩] w λe w'=>e=.returned (.string ⟨(xG K).toArray⟩)/\Zd w.heap.size w w':=by
 obtain⟨ta,tc,V,aG⟩:=h.slice;have hb:=lB V;have HA:=Z aG;have T:=Z h;have al:=Z V;have hD:K.length<=6:=h.ok.1;generalize ho:xG K=out;have HO:=Z ho;have ar:=Z λi=>zw h.ok i;go_in;go_wp2
 go_loopw [3,4] (λs3 s4 wr=>∃i:Nat,i<=K.length/\s3=.string ⟨(((K.take i).map dH).flatten).toArray⟩/\s4=.int .i64 (i:Nat)/\Ze (Zd w.heap.size w wr)) (λ_ s4 _=>K.length-(Zk s4).toNat)
 exact⟨0,Wi _,by simp,rfl,VM _ _⟩
 case round=>
  obtain⟨i,hi,rfl,rfl,HB⟩:=hrel;have B:=HB.o;have L:=bB B hb al;have c0:=bC L 0;simp at c0;have a3:=lB L;have bg:=ar.o i;by_cases E:i<K.length
  ·have X:K[i]?=some K[i]:=VE E;have Y:F[i]?=some (F[i]'(T.len▸E)):=VE _;have aC:Ze<|((K.take<|i+1).map dH).flatten=((K.take i).map dH).flatten++dH K[i]:=by
    unfold Ze;rw[V9,X,Wc,XO];simp
   have b:=Z<|T.ok.2 _<|VQ E;generalize F[i]'(T.len▸E)=l at*;generalize K[i]=t at*;generalize ((K.take i).map dH).flatten=d at*;obtain⟨g,rfl,hg,e0⟩:=HA.o i l Y;have a7:=VT hg B.size;have aE:=(B.cell (p:=⟨g,i,none⟩) hg).trans e0;unfold gC at aE;have HT:=Z<|T.c i l t Y X;have hT:=HT.o;obtain⟨cv,C,⟨aV,W,aN⟩,_⟩:=hT.q;have O:=Z C;have u:=lB C;have R:=Z W;have S:=Z aN;obtain⟨ca,cc,rfl,_⟩:=cz W;obtain⟨ra,rc,aO,_⟩:=cz hT.rows;have az:=Z aO;have I:=bB B u C;have n0:=bC I 0;simp at n0;have aQ:=lB I;have be:=b.name.1;have a5:=b.b;have bj:=b.d;obtain⟨w0,rfl⟩:∃w0:Za,w0=wr:=⟨_,rfl⟩;have ao:Ze<|({data:=#[67,82,69,65,84,69,32,84,65,66,76,69,32]}:Y9)++{data:=t.name.toArray}++{data:=#[32,40]}=⟨(ej (je t.name) (t.a.map bM) 0).toArray⟩:=by unfold Ze;rw[wI];exact C0 [67,82,69,65,84,69,32,84,65,66,76,69,32] t.name [32,40]
   have am:=Z λk=>yT (head:=je t.name) (xs:=t.a.map bM) (by simp[je];omega) (λx hx=>by obtain⟨c,hc,rfl⟩:=VV.1 hx;exact nU (b.a c hc).2.1) (by simp;omega) k;go_upto_region 7 with fail
   rw[ao];go_wp2
   go_loopw [6,7] (λs6 s7 wr=>∃k:Nat,k<=t.a.length/\s6=.string ⟨(ej (je t.name) (t.a.map bM) k).toArray⟩/\s7=.int .i64 (k:Nat)/\Ze (Zd w.heap.size w wr)) (λ_ s7 _=>t.a.length-(Zk s7).toNat)
   exact⟨0,Wi _,rfl,rfl,HB⟩;obtain⟨k,hk,rfl,rfl,A⟩:=hrel;have Q:=A.o;have q:=bB Q u O;have m1:=bC q 1;have m2:=bC q 2;have m0:=bC q 0;simp at m0 m1 m2;have aR:=lB q;have a4:=am.o k;by_cases z:k<t.a.length
   .have M:t.a[k]?=some t.a[k]:=VE z;have P:=b.a _<|VQ z;generalize t.a[k]=c at*;obtain⟨gc,_,he,_,a8,e1⟩:=dA (aB Q R) (S k c M).1;cases he;obtain⟨_,_,he,_,_,N⟩:=dA (aB Q R) (S k c M).2;cases he;have bb:((k:Nat):Int)<((t.a.length:Nat):Int):=by omega
    have af:(t.a.map bM)[k]?=some (bM c):=by rw[VO,M];rfl
    obtain⟨y,H,C⟩:∃y:YX,Ze (y=(if 0<k then ej (je t.name) (t.a.map bM) k++[44,32]else ej (je t.name) (t.a.map bM) k)/\ej (je t.name) (t.a.map bM) (k+1)=y++c.1++[32]++iy c.2)/\y.length<=800:=by
     refine⟨_,⟨rfl,?_⟩,?_⟩
     .split
      .rename_i h0;rw[wH h0 af];simp[bM]
      obtain rfl:k=0:=by omega
      rw[yU af];simp[bM]
     split
     .simp;omega
     omega
    generalize aP:ej (je t.name) (t.a.map bM) k=J at*;generalize U:ej (je t.name) (t.a.map bM) (k+1)=ah at*;have r:=Z U;have D:=Z<|jZ J [44,32];obtain⟨ad,bf,-⟩:=P;have aD:Ze<|ah=y++c.1++[32]++iy c.2:=H.2;have a:Ze (∀x:YX,x=iy c.2->(({data:=y.toArray}:Y9)++{data:=c.1.toArray})++{data:=#[32]}++{data:=x.toArray}=⟨ah.toArray⟩):=λx hx=>by rw[aD,hx];exact(Wd (·++(⟨_⟩:Y9))<|C0 y c.1 [32]).trans (jZ _ _)
    have j:Ze (∀o,Zd w.heap.size w (wr.alloc o).drew):=λo=>(A.alloc A.size o).drew;by_cases h0:0<k
    .have aZ:(0:Int)<(k:Int):=by omega
     have aL:J++[44,32]=y:=by have:=H.1;rw[VG h0]at this;exact this.symm
     rw[aL]at D;go_upto_region 12 with fail
     rw[D];obtain h|h|h:=ad
     .rw[h]at N;have HF:=Z<|a [73,78,84] (by rw[h];rfl);go_region;all_goals go_wp2_with fail
      all_goals exact⟨⟨k+1,by omega,by rw[r];exact Wd Zb.string HF,by go_num,j _⟩,by simp[Zk];omega⟩
     .rw[h]at N;have HF:=Z<|a [84,69,88,84] (by rw[h];rfl);go_region;all_goals go_wp2_with fail
      all_goals exact⟨⟨k+1,by omega,by rw[r];exact Wd Zb.string HF,by go_num,j _⟩,by simp[Zk];omega⟩
     rw[h]at N;have HF:=Z<|a [66,79,79,76] (by rw[h];rfl);go_region;all_goals go_wp2_with fail
     all_goals exact⟨⟨k+1,by omega,by rw[r];exact Wd Zb.string HF,by go_num,j _⟩,by simp[Zk];omega⟩
    have a0:¬(0:Int)<(k:Int):=by omega
    have aM:J=y:=by have:=H.1;rw[VF h0]at this;exact this.symm
    subst aM;go_upto_region 12 with fail
    obtain h|h|h:=ad
    .rw[h]at N;have HF:=Z<|a [73,78,84] (by rw[h];rfl);go_region;all_goals go_wp2_with fail
     all_goals exact⟨⟨k+1,by omega,by rw[r];exact Wd Zb.string HF,by go_num,j _⟩,by simp[Zk];omega⟩
    .rw[h]at N;have HF:=Z<|a [84,69,88,84] (by rw[h];rfl);go_region;all_goals go_wp2_with fail
     all_goals exact⟨⟨k+1,by omega,by rw[r];exact Wd Zb.string HF,by go_num,j _⟩,by simp[Zk];omega⟩
    rw[h]at N;have HF:=Z<|a [66,79,79,76] (by rw[h];rfl);go_region;all_goals go_wp2_with fail
    all_goals exact⟨⟨k+1,by omega,by rw[r];exact Wd Zb.string HF,by go_num,j _⟩,by simp[Zk];omega⟩
   obtain rfl:k=t.a.length:=by omega
   have ai:Ze<|(({data:=d.toArray}:Y9)++{data:=(ej (je t.name) (t.a.map bM) t.a.length).toArray})++{data:=#[41,10]}=⟨(d++eG t).toArray⟩:=by unfold Ze;rw[zL];have:=C0 d (ej (je t.name) (t.a.map bM) t.a.length) [41,10];rw[this];simp
   have aq:=Z<|oQ b;have aw:=Z λj=>sW b j;go_upto_region 14 with fail
   rw[ai];go_wp2
   go_loopw [3,8] (λs3 s8 wr=>∃m:Nat,m<=t.rows.length/\s3=.string ⟨(d++eG t++((t.rows.take m).map<|dC t.name).flatten).toArray⟩/\s8=.int .i64 (m:Nat)/\Ze (Zd w.heap.size w wr)) (λ_ s8 _=>t.rows.length-(Zk s8).toNat)
   exact⟨0,Wi _,by simp,rfl,A⟩;obtain⟨m,hm,rfl,rfl,P⟩:=hrel;have aK:=P.o;have y:=bB aK u O;have p0:=bC y 0;have p2:=bC y 2;simp at p0 p2;rw[az]at p2;have aT:=lB y;have ba:=aq.o;have bi:=aw.o m;by_cases aa:m<t.rows.length
   ·have ab:t.rows[m]?=some t.rows[m]:=VE aa;have M:=oE b<|VQ aa;have ay:Ze<|((t.rows.take<|m+1).map<|dC t.name).flatten=((t.rows.take m).map<|dC t.name).flatten++dC t.name t.rows[m]:=by
     unfold Ze;rw[V9,ab,Wc,XO];simp
    generalize t.rows[m]=r at*;have bd:((m:Nat):Int)<((t.rows.length:Nat):Int):=by omega
    generalize ac:d++eG t++((t.rows.take m).map<|dC t.name).flatten=a at*;have bk:a.length<=230000:=by rw[<-ac];simp only[VH];omega
    have aA:=Z ac;have ap:Ze<|({data:=#[73,78,83,69,82,84,32,73,78,84,79,32]}:Y9)++{data:=t.name.toArray}++{data:=#[32,86,65,76,85,69,83,32,40]}=⟨(ej (iM t.name) (r.map aS) 0).toArray⟩:=by unfold Ze;rw[wI];exact C0 [73,78,83,69,82,84,32,73,78,84,79,32] t.name [32,86,65,76,85,69,83,32,40]
    have an:=Z λk=>yT (head:=iM t.name) (xs:=r.map aS) (by simp[iM];omega) (λx hx=>by obtain⟨c,hc,rfl⟩:=VV.1 hx;exact mh<|M.2 c hc) (by simp;omega) k;have H:=Z M;have ax:=Z ab;go_upto_region 18 with fail
    rw[ap];go_wp2
    go_loopw [6,9] (λs6 s9 wr=>∃k:Nat,k<=r.length/\s6=.string ⟨(ej (iM t.name) (r.map aS) k).toArray⟩/\s9=.int .i64 (k:Nat)/\Ze (Zd w.heap.size w wr)) (λ_ s9 _=>r.length-(Zk s9).toNat)
    exact⟨0,Wi _,rfl,rfl,P⟩;obtain⟨k,hk,rfl,rfl,o⟩:=hrel;have U:=o.o;have J:=bB U u O;have q2:=bC J 2;simp at q2;obtain⟨gr,aY,ur,xa,xc,aF,a_,d0,rfl,D⟩:=(HT.aL (w':=wr) (λk hm=>hm) λk hm=>U.block k<|T.lt k hm).c ax;rw[aF]at q2;have aU:=lB J;have a6:=an.o k;have bh:=H.1;by_cases z:k<r.length
    .have ae:r[k]?=some r[k]:=VE z;have N:=H.2 _<|VQ z;generalize r[k]=v at*;obtain⟨gq,rfl,a9,v0,v1,v2⟩:=D k v ae;have bc:((k:Nat):Int)<((r.length:Nat):Int):=by omega
     have ag:(r.map aS)[k]?=some (aS v):=by rw[VO,ae];rfl
     have bl:=mh N;have HC:=Z<|O8 v N wr;unfold oK at HC;by_cases h0:0<k
     .have a1:(0:Int)<(k:Int):=by omega
      have au:Ze<|({data:=(ej (iM t.name) (r.map aS) k).toArray}:Y9)++{data:=#[44,32]}++{data:=(aS v).toArray}=⟨(ej (iM t.name) (r.map aS)<|k+1).toArray⟩:=by unfold Ze;rw[wH h0 ag];exact C0 _ [44,32] _
      generalize ej (iM t.name) (r.map aS) k=aW at*;generalize aS v=vt at*;go_wp2_with fail;refine HC.mono ?_;rintro e w5⟨rfl,aH⟩;have aj:=Z<|o.trans<|aH.mono o.size;go_wp2;go_roundw;exact⟨k+1,by omega,Wd Zb.string au,by go_num,aj⟩;simp[Zk];omega
     have a2:¬(0:Int)<(k:Int):=by omega
     obtain rfl:k=0:=by omega
     have av:Ze<|({data:=(ej (iM t.name) (r.map aS) 0).toArray}:Y9)++{data:=(aS v).toArray}=⟨(ej (iM t.name) (r.map aS) 1).toArray⟩:=by unfold Ze;rw[yU ag];exact jZ _ _
     generalize ej (iM t.name) (r.map aS) 0=aX at*;generalize aS v=vt at*;go_wp2_with fail;refine HC.mono ?_;rintro e w5⟨rfl,aJ⟩;have ak:=Z<|o.trans<|aJ.mono o.size;go_wp2;go_roundw;exact⟨1,by omega,Wd Zb.string av,by go_num,ak⟩;simp[Zk];omega
    obtain rfl:k=r.length:=by omega
    have N:Ze<|(({data:=a.toArray}:Y9)++{data:=(ej (iM t.name) (r.map aS) r.length).toArray})++{data:=#[41,10]}=⟨(d++eG t++((t.rows.take<|m+1).map<|dC t.name).flatten).toArray⟩:=by unfold Ze;rw[ay,BF];have:=C0 a (ej (iM t.name) (r.map aS) r.length) [41,10];rw[this,<-aA];simp
    go_wp2;go_roundw;exact⟨m+1,by omega,Wd Zb.string N,by go_num,o⟩;simp[Zk];omega
   obtain rfl:m=t.rows.length:=by omega
   have a:Ze<|d++eG t++((t.rows.take t.rows.length).map<|dC t.name).flatten=((K.take<|i+1).map dH).flatten:=by unfold Ze;rw[aC,Wj,py];simp
   rw[a];go_wp2;go_roundw;exact⟨i+1,by omega,rfl,by go_num,P⟩;simp[Zk];omega
  obtain rfl:i=K.length:=by omega
  have a:Ze<|((K.take K.length).map dH).flatten=out:=by unfold Ze;rw[Wj,<-HO];rfl
  rw[a];go_wp2;go_ret;exact⟨rfl,HB⟩
