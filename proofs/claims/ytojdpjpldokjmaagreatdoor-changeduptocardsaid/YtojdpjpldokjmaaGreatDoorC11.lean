import Derived.Lib.LaidTab
import Derived.Lib.ItoaNum
import Derived.Test.YtojdpjpldokjmaaGreatDoorC06
set_option maxHeartbeats 0
set_option maxRecDepth 100000
set_option linter.all false
namespace Go.Proofs.YtojdpjpldokjmaaGreatDoor
open Go.Deep Go.RowKit Tryz
open Go renaming World->Za,Calls->Zc
open RowKit renaming Hid->Ze
variable{a:Int}{W w:World}{i n:Nat}
def kO(w:Za):Prop:=Lib.TabIs prog w "internal/strconv.uint64pow10" .u64 Lib.pow10Tab
def Mw(w:Za):Prop:=∃m,w.cell? ⟨2,0,none⟩=some (qI m)
def JZ(w:Za):Prop:=∀k:Nat,1<=k->k<=3->w.cell? ⟨0,k,none⟩=some (qT<|iy (k:Nat))
structure mH:Prop where
 itoa:∀(n:Int) (w:Za),-9223372036854775808<=n->n<=9223372036854775807->kO w->Zc prog 118 #[qI n] w (qF (qT<|Lib.itoa n) w)
 a:∀(s:YX) (w:Za),s.length<=1000->Mw w->Zc prog 73 #[qT s,.string ⟨#[39]⟩,.string ⟨#[39,39]⟩] w (qF (qT<|cT s) w)
 join:∀(xs:List YX) (v:Value) (B:Nat) (w:Za),w.ownsRow B 9 1 v xs.length (xs.map λx=>qT x)->xs.length<=1000->(dG [44,32] xs).length<=1000000->Zc prog 71 #[v,.string ⟨#[44,32]⟩] w (qF (qT<|dG [44,32] xs) w)
 write:∀(B b:Nat) (l s:YX) (w:Za),Lib.IsBuilder 86 5 B b (Lib.byteCells l) w->l.length+s.length<=100000000->B<=w.heap.size->Zc prog 37 #[qP b,qT s] w λe w'=>∃v,e=.returned v/\Lib.IsBuilder 86 5 B b (Lib.byteCells<|l++s) w'/\Below B w w'
 str:∀(B b:Nat) (l:YX) (w:Za),Lib.IsBuilder 86 5 B b (Lib.byteCells l) w->B<=w.heap.size->Zc prog 42 #[qP b] w λe w'=>e=.returned (qT l)/\Below B w w'
def jZ(a b:YX):({data:=a.toArray}:Y9)++{data:=b.toArray}=⟨(a++b).toArray⟩:=by rw[ByteArray.mk_append_mk]
def JK(b:Bool)(w:Za):Zc prog 74 #[.bool b] w<|qE (qT (if b then ([84,82,85,69]:YX)else [70,65,76,83,69])) w:=by
 cases b;all_goals
  go_in;go_wp2;go_ret;exact⟨rfl,rfl⟩
def AB:∀(f n:Nat)(a:YX),n<10 ^ f->gH f n a=if f=0 then a else Lib.decDigits n++a
 |0,n,a,h=>by simp[gH]
 |f+1,n,a,h=>by
  rw[VF<|by omega,gH,Lib.decDigits];by_cases b:n<10
  .rw[VG b,dif_pos b];rfl
  rw[VF b,dif_neg b];have d:n / 10<10 ^ f:=by rw[XK]at h;exact XI<|by omega
  rw[AB f (n / 10) _ d];by_cases c:f=0
  .subst c;simp at d;omega
  rw[VF c];simp
def Bb{n:Int}(c: -9223372036854775808<n)(d:n<=9223372036854775807):Lib.itoa n=fj n:=by
 have e:∀k:Nat,k<=9223372036854775807->Lib.decDigits k=gV k:=λk hk=>by unfold gV;rw[AB 20 k []<|XU hk<|by decide];simp
 have b:n≠-9223372036854775808:=by omega
 unfold Lib.itoa fj;rw[VF b];by_cases a:n<0
 .rw[VG a,VG a,<-e _ (by omega)]
  congr 2
  omega
 rw[VF a,VF a,<-e _ (by omega)]
def LF:fj (-9223372036854775808)=Lib.itoa (-9223372036854775807)++[32,45,32,49]:=by rw[Bb (by decide)<|by decide];kernel_rfl
def Gq(X:mH)(h: -9223372036854775808<=a)(b:a<=9223372036854775807)(d:kO w):Zc prog 72 #[qI a] w<|qF (qT<|fj a) w:=by
 by_cases c:a=-9223372036854775808
 ·subst c;have e:=Z<|X.itoa (-9223372036854775807) w (by omega) (by omega) d;have g:Ze<|(fj<|-9223372036854775808)=Lib.itoa (-9223372036854775807)++[32,45,32,49]:=LF;have j:(Lib.itoa<|-9223372036854775807).length<=20:=by
   rw[Bb (by decide)<|by decide,show fj (-9223372036854775807)=[45,57,50,50,51,51,55,50,48,51,54,56,53,52,55,55,53,56,48,55]from by kernel_rfl];decide
  generalize Lib.itoa (-9223372036854775807)=x at*;go_in;go_wp2_with fail;apply qR e;intro k i;have HB:=Z i;go_wp2;go_ret;exact⟨i5<|g▸jZ x [32,45,32,49],HB⟩
 have e:=Z<|X.itoa a w h b d;have g:(a == -9223372036854775808)=false:=by simp[c]
 go_in;go_wp2_with fail;apply qR e;intro j i;have HB:=Z i;go_wp2;go_ret;exact⟨i5<|by rw[Z<|Bb (n:=a) (by omega) b],HB⟩
structure kM(w:Za):Prop where
 pow:kO w
 max:Mw w
 names:JZ w
def BC: prog.globalNamed "internal/strconv.uint64pow10"=some 5:=by kernel_rfl
def kO.aL{w':Za}(h:kO w)(a:w'.heap[5]?=w.heap[5]?):kO w':=by unfold kO Lib.TabIs Za.var? at*;rw[BC]at*;simp only[Option.bind_some]at*;rw[a];exact h
def kO.lt(h:kO w): 5<w.heap.size:=by
 unfold kO Lib.TabIs Za.var? at h;rw[BC]at h;obtain a|a:=Wx 5 w.heap.size
 .exact a
 rw[Option.bind_some,Xf a]at h;cases h
def kM.aL{w':Za}(h:kM w)(a:∀k,k=5\/k=2\/k=0->w'.heap[k]?=w.heap[k]?):kM w':=
 ⟨h.pow.aL<|a _<|.inl rfl,let ⟨m,hm⟩:=h.max;⟨m,(VK<|a _<|.inr<|.inl rfl).trans hm⟩,λk b c=>(VK<|a _<|.inr<|.inr rfl).trans<|h.names k b c⟩
def kM.c(h:kM w):∀k,k=5\/k=2\/k=0->k<w.heap.size:=by
 rintro k (rfl|rfl|rfl)
 .exact h.pow.lt
 .obtain⟨m,a⟩:=h.max;exact lt_of_cell a
 exact lt_of_cell<|h.names 1 (by omega)<|by omega
def kM.below(h:kM w)(a:qB w W):kM W:=h.aL λk hk=>a.block k<|h.c k hk
def Dr:∀s:YX,(cT s).length<=2*s.length
 |[]=>by simp[cT]
 |c::r=>by have:=Dr r;unfold cT;split<;>simp<;>omega
def JO(X:mH)(v:ai)(w:Za)(p:kM w)(r:dv v):Zc prog 41 #[vV v] w<|qF (qT<|aS v) w:=by
 have e:qB w<|w.alloc<|.cells #[qI v.aC,qI v.n,qT v.s] 34:=qA;have i:=p.below e;have a:=Z e;obtain⟨k,n,s⟩:=v;obtain⟨b,d,c⟩|⟨b,c,g,h⟩|⟨b,d,c⟩|⟨b,d,c⟩:=r
 .simp only at b d c;subst b d c;unfold vV;go_in;go_wp2;go_ret;exact⟨rfl,a⟩
 .simp only at b c g h;subst b c;have j:=Z<|Gq X g h i.pow;have l:Ze<|aS ⟨1,n,[]⟩=fj n:=rfl;unfold vV at*;go_in;go_wp2_with fail;apply qR j;intro q o;have HB:=Z<|a.trans<|o.mono a.size;go_wp2;go_ret;exact⟨i5<|by rw[l],HB⟩
 .simp only at b d c;subst b d;have j:=Z<|X.a s _ (by omega) i.max;have l:Ze<|aS ⟨2,0,s⟩=39::(cT s++[39]):=rfl;have t:(cT s).length<=80:=by have:=Dr s;omega
  generalize cT s=q at*;unfold vV at*;go_in;go_wp2_with fail;apply qR j;intro u o;have HB:=Z<|a.trans<|o.mono a.size;go_wp2;go_ret;exact⟨i5 (by rw[l];exact(Wd (·++_)<|jZ [39] q).trans (jZ (39::q) [39])),HB⟩
 simp only at b d c;subst b c;have j:=Z<|JK (n==1)<|w.alloc<|.cells #[qI 3,qI n,qT ([]:YX)] 34;have l:Ze<|aS ⟨3,n,[]⟩=if (n==1)=true then [84,82,85,69]else [70,65,76,83,69]:=by obtain rfl|rfl:=d<;>rfl
 generalize (if (n==1)=true then ([84,82,85,69]:YX)else [70,65,76,83,69])=x at*;unfold vV at*;go_in;go_wp2_with fail;apply qS j;go_wp2;go_ret;exact⟨i5<|by rw[l],a⟩
def xS(k:Int):(iy k).length<=4:=by
 unfold iy;split
 .decide
 split<;>decide
def Fw(c:YX×Int)(w:Za)(d:kM w)(i:c.1.length<=10)(j:c.2=1\/c.2=2\/c.2=3):Zc prog 39 #[.agg #[qT c.1,qI c.2]] w<|qF (qT<|bM c) w:=by
 obtain⟨x,t⟩:=c;simp only at i j;have a:qB w<|w.alloc<|.cells #[qT x,qI t] 97:=qA;have n:=d.below a;have h:Ze<|bM (x,t)=x++32::iy t:=rfl;obtain⟨k,rfl,e,g⟩:∃k:Nat,t=(k:Int)/\1<=k/\k<=3:=⟨t.toNat,by omega,by omega,by omega⟩;have p:=d.names k e g;have q: 0<w.heap.size:=d.c _<|.inr<|.inr rfl;have o:=xS k;have b:=Z a;generalize iy (k:Nat)=y at*;have l:(k:Int)<4:=by omega
 go_in;go_upto_region 1 with fail
 go_region;all_goals go_wp2_with fail
 all_goals go_ret
 all_goals exact⟨i5 (by rw[h];exact(Wd (·++_)<|jZ x [32]).trans ((jZ (x++[32]) y).trans<|by simp)),b.drew⟩
def lT:∀(f n:Nat)(a:YX),gH f n a=gH f n []++a
 |0,_,a=>by simp[gH]
 |f+1,n,a=>by
  unfold gH;split
  .rfl
  rw[lT f (n / 10)<|_::a,lT f (n / 10) [_]];simp
def ue:∀(f n:Nat),n<10 ^ (f+1)->gH (f+2) n []=gH (f+1) n []
 |0,n,h=>by unfold gH;rw[VG<|by omega,VG<|by omega]
 |f+1,n,h=>by
  conv=>lhs;unfold gH
  conv=>rhs;unfold gH
  split
  .rfl
  rw[lT,lT<|f+1,ue f (n / 10) (by rw[XK]at h;exact XI<|by omega)]
def Ip(h:n<10):gV n=[UInt8.ofNat<|48+n]:=by unfold gV gH;rw[VG h]
def FF(h:¬n<10)(a:n<10 ^ 20):gV n=gV (n / 10)++[UInt8.ofNat<|48+n % 10]:=by
 unfold gV
 conv=>lhs;unfold gH
 rw[VF h,lT];rw[ue 18 (n / 10)<|XI<|by omega]
def M_(h:n<10):(⟨#[48,49,50,51,52,53,54,55,56,57]⟩:Y9).extract n (n+1)=⟨#[UInt8.ofNat<|48+n]⟩:=by
 match n,h with
 |0,_=>rfl|1,_=>rfl|2,_=>rfl|3,_=>rfl|4,_=>rfl|5,_=>rfl|6,_=>rfl|7,_=>rfl|8,_=>rfl|9,_=>rfl
def La(h:n<10):Zc prog 141 #[qI (n:Nat)] w<|qE (qT<|gV n) w:=by rw[Ip h];go_in;go_wp2;go_ret;exact⟨i5 (by rw[Nat.mod_eq_of_lt h];exact Z<|M_ h),rfl⟩
def Iq(h:¬n<10)(j:n<=9223372036854775807)(e:Zc prog 141 #[qI ((n / 10:Nat):Int)] w<|qE (qT<|gV<|n / 10) w):Zc prog 141 #[qI (n:Nat)] w<|qE (qT<|gV n) w:=by
 rw[FF h<|by omega];have b:=Z<|M_ (show n % 10<10 from Yx _ (by omega));have i:=(tx (n:=n / 10)<|by omega).2.2.2;have c:=Z e;generalize gV (n / 10)=d at*;have a:((⟨#[48,49,50,51,52,53,54,55,56,57]⟩:Y9).extract (n % 10)<|n % 10+1).size=1:=by rw[b];rfl
 have g:=Z a;go_in;go_upto_region 4 with fail
 rw[b];go_wp2_with fail;apply qS c;go_wp2;go_ret;exact⟨i5 (by rw[PI];exact jZ d [UInt8.ofNat<|48+n % 10]),rfl⟩
def J8:∀(n:Nat),n<=9223372036854775807->∀(w:Za),Zc prog 141 #[qI (n:Nat)] w<|qE (qT<|gV n) w:=by
 intro n
 induction n using Nat.strongRecOn with
 |ind n ih=>
  intro a w;by_cases h:n<10
  .exact La h
  exact Iq h a<|ih (n / 10) (by omega) (by omega) w
def Lb(k:Nat)(d:0<k)(b:k<=9223372036854775807)(w:Za):Zc prog 141 #[qI<|-(k:Int)] w<|qE (qT<|45::gV k) w:=by have a:=Z<|J8 k b w;have e:=(tx (n:=k)<|by omega).2.2.2;generalize gV k=c at*;go_in;go_wp2_with fail;apply qS a;go_wp2;go_ret;exact⟨i5<|M7 _ _,rfl⟩
def Hr{v:ai}(h:v.aC=1):aS v=fj v.n:=by unfold aS;rw[VG h]
def JU{v:ai}(h:dv v)(b:v.aC=1):Zc prog 90 #[oK v] w<|qF (qT<|aS v) w:=by
 rw[Hr b];have g:=h.range;have HB:Ze (∀o,qB w<|w.alloc o):=λo=>qA;obtain⟨k,n,s⟩:=v;simp only at b g;subst b;unfold oK;simp only;generalize (⟨s.toArray⟩:Y9)=i;by_cases a:n=-9223372036854775808
 .subst a;have c:fj (-9223372036854775808)=[45,57,50,50,51,51,55,50,48,51,54,56,53,52,55,55,53,56,48,55,32,45,32,49]:=by rw[fj,VG rfl]
  rw[c];go_in;go_wp2;go_ret;exact⟨rfl,HB _⟩
 have l:(n == -9223372036854775808)=false:=by simp[a]
 by_cases c:n<0
 ·obtain ⟨k,rfl⟩:∃k:Nat,n=-(k:Int):=⟨(-n).toNat,by omega⟩;have e:fj (-(k:Int))=45::gV k:=by
   unfold fj;rw[VF a,VG c]
   congr 2
   omega
  rw[e];have d:=Z λW=>Lb k (by omega) (by omega) W;generalize (45::gV k)=j at*;go_in;go_wp2_with fail;apply qS<|d _;go_wp2;go_ret;exact⟨rfl,HB _⟩
 obtain⟨k,rfl⟩:∃k:Nat,n=(k:Int):=⟨n.toNat,by omega⟩;have e:fj (k:Int)=gV k:=by
  unfold fj;rw[VF a,VF c]
  congr 1
 rw[e];have d:=Z λW=>J8 k (by omega) W;generalize gV k=j at*;go_in;go_wp2_with fail;apply qS<|d _;go_wp2;go_ret;exact⟨rfl,HB _⟩
def EV{v:ai}(c:dv v)(a:v.aC=0\/v.aC=3):Zc prog 90 #[oK v] w<|qF (qT<|aS v) w:=by
 have HB:Ze (∀o,qB w<|w.alloc o):=λo=>qA;obtain⟨k,n,s⟩:=v;simp only at a;unfold oK;simp only;generalize (⟨s.toArray⟩:Y9)=d;obtain rfl|rfl:=a
 .rw[show aS ⟨0,n,s⟩=[78,85,76,76] by unfold aS;simp];go_in;go_wp2;go_ret;exact⟨rfl,HB _⟩
 have b:n=0\/n=1:=by obtain h|h|h|h:=c<;>simp at h<;>omega
 obtain rfl|rfl:=b
 .rw[show aS ⟨3,0,s⟩=[70,65,76,83,69] by unfold aS;simp];go_in;go_wp2;go_ret;exact⟨rfl,HB _⟩
 rw[show aS ⟨3,1,s⟩=[84,82,85,69] by unfold aS;simp];go_in;go_wp2;go_ret;exact⟨rfl,HB _⟩
def Nj(l:YX)(h:i<l.length):(⟨l.toArray⟩:Y9).extract i (i+1)=⟨[l[i]].toArray⟩:=D1 ⟨l.toArray⟩ i h
def Jj(l:YX)(c:UInt8):cT (l++[c])=cT l++if c=39 then [39,39]else [c]:=by
 induction l with
 |nil=>simp[cT]
 |cons a r ih=>
  simp only[WU,cT,ih];split<;>simp
def Uq(l:YX):(cT l).length<=2*l.length:=by
 induction l with
 |nil=>simp[cT]
 |cons a r ih=>simp only[cT];split<;>simp<;>omega
def Hx{v:ai}(B:dv v)(r:v.aC=2):Zc prog 90 #[oK v] w<|qF (qT<|aS v) w:=by
 have HB:Ze (∀o,qB w<|w.alloc o):=λo=>qA;obtain⟨k,n,s⟩:=v;simp only at r;subst r;have E:s.length<=40:=by obtain h|h|h|h:=B<;>simp at h<;>omega
 rw[show aS ⟨2,n,s⟩=39::(cT s++[39]) by unfold aS;simp];unfold oK;simp only;go_in;go_upto_region 5 with fail
 generalize q:w.alloc (.cells #[qI 2,qI n,qT s] 34)=F at*;have p:=aM w<|.cells #[qI 2,qI n,qT s] 34;rw[q]at p;have d:=Z<|HB<|.cells #[qI 2,qI n,qT s] 34;rw[q]at d;have C:=lB p;have G:=bC p;go_wp2
 go_loop [3,4] (λa b=>∃i:Nat,i<=s.length/\a=qT (39::cT (s.take i))/\b=qI i) (λ_ b=>s.length-(intOf b).toNat)
 exact⟨0,qO,by simp[cT],rfl⟩;obtain⟨i,hi,rfl,rfl⟩:=hrel;by_cases c:i<s.length
 ·have u:=Z<|Nj s c;have g:Ze<|cT (s.take<|i+1)=cT (s.take i)++if s[i]=39 then [39,39]else [s[i]]:=by
   unfold Ze;rw[V9,VE c];exact Jj _ _
  have A:=Uq<|s.take i;have z:(s.take i).length<=40:=by simp;omega
  go_upto_region 10 with fail
  rw[u,jZ];by_cases e:s[i]=39
  ·have l:((({data:=s.toArray}:Y9)[i]'c).toNat:Int)=39:=by
    show((s[i].toNat:Nat):Int)=39;rw[e];rfl
   have j:(((({data:=s.toArray}:Y9)[i]'c).toNat:Int)==39)=true:=by simp[l]
   have y:(((s[i].toNat:Nat):Int)==39)=true:=j;rw[VG e]at g;have t:Ze<|({data:=(39::cT (s.take i)++[s[i]]).toArray}:Y9)++{data:=#[39]}=⟨(39::cT (s.take<|i+1)).toArray⟩:=by unfold Ze;rw[g,e];have:=jZ (39::cT (s.take i)++[39]) [39];rw[this];simp
   have D:(39::cT (s.take i)++[s[i]]).length<=100:=by simp;omega
   generalize (39::cT (s.take i)++[s[i]])=x at*;go_wp2;go_round;exact⟨i+1,by omega,by rw[t],by go_num⟩;simp[intOf];omega
  have l:¬((({data:=s.toArray}:Y9)[i]'c).toNat:Int)=39:=by
   show ¬((s[i].toNat:Nat):Int)=39;intro h;apply e;apply Wg.1;have:s[i].toNat=39:=by omega
   rw[this];rfl
  have j:(((({data:=s.toArray}:Y9)[i]'c).toNat:Int)==39)=false:=by simp[l]
  have x:(((s[i].toNat:Nat):Int)==39)=false:=j;rw[VF e]at g;have t:Ze<|39::cT (s.take i)++[s[i]]=39::cT (s.take<|i+1):=by unfold Ze;rw[g];simp
  rw[t];go_wp2;go_round;exact⟨i+1,by omega,rfl,by go_num⟩;simp[intOf];omega
 obtain rfl:i=s.length:=by omega
 rw[Wj];have e:=Uq s;go_wp2;go_ret;exact⟨i5<|by simpa using(Z<|jZ (39::cT s) [39]).o,d.o⟩
def O8(v:ai)(a:dv v)(w:Za):Zc prog 90 #[oK v] w<|qF (qT<|aS v) w:=by
 have:=a.aC;by_cases b:v.aC=1
 .exact JU a b
 by_cases c:v.aC=2
 .exact Hx a c
 exact EV a<|by omega
