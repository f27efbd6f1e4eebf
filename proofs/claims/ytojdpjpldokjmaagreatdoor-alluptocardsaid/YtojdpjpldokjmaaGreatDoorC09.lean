import Derived.Lib.LaidTab
import Derived.Lib.ItoaNum
import Derived.Test.YtojdpjpldokjmaaGreatDoorC06
set_option maxHeartbeats 0
set_option maxRecDepth 100000
set_option linter.all false
namespace Go.Proofs.YtojdpjpldokjmaaGreatDoor
open Go.Deep Go.RowKit Tryz
open Go renaming World->Za,Calls->Zc
variable{a:Int}{W w:World}{n:Nat}{X:YX}{K:aI}{D E:YV}
def kO(w:Za):Prop:=Lib.TabIs prog w "internal/strconv.uint64pow10" .u64 Lib.pow10Tab
def Mw(w:Za):Prop:=∃m,w.cell? ⟨2,0,none⟩=some (qI m)
def JZ(w:Za):Prop:=∀k:Nat,1<=k->k<=3->w.cell? ⟨0,k,none⟩=some (qT<|iy (k:Nat))
structure mH:Prop where
 itoa:∀(n:Int) (w:Za),-9223372036854775808<=n->n<=9223372036854775807->kO w->Zc prog 118 #[qI n] w (qF (qT<|Lib.itoa n) w)
 a:∀(s:YX) (w:Za),s.length<=1000->Mw w->Zc prog 73 #[qT s,.string ⟨#[39]⟩,.string ⟨#[39,39]⟩] w (qF (qT<|cT s) w)
 join:∀(xs:List YX) (v:Value) (B:Nat) (w:Za),w.ownsRow B 9 1 v xs.length (xs.map λx=>qT x)->xs.length<=1000->(dG [44,32] xs).length<=1000000->Zc prog 71 #[v,.string ⟨#[44,32]⟩] w (qF (qT<|dG [44,32] xs) w)
 write:∀(B b:Nat) (l s:YX) (w:Za),Lib.IsBuilder 86 5 B b (Lib.byteCells l) w->l.length+s.length<=100000000->B<=w.heap.size->Zc prog 37 #[qP b,qT s] w λe w'=>∃v,e=.returned v/\Lib.IsBuilder 86 5 B b (Lib.byteCells<|l++s) w'/\Below B w w'
 str:∀(B b:Nat) (l:YX) (w:Za),Lib.IsBuilder 86 5 B b (Lib.byteCells l) w->B<=w.heap.size->Zc prog 42 #[qP b] w λe w'=>e=.returned (qT l)/\Below B w w'
def jZ(a b:YX):({data:=a.toArray}:Y9)++{data:=b.toArray}=⟨(a++b).toArray⟩:=by rw[ByteArray.mk_append_mk]
def JK(b:Bool)(w:Za):Zc prog 74 #[.bool b] w<|qE (qT (if b then ([84,82,85,69]:YX)else [70,65,76,83,69])) w:=by
 cases b;all_goals
  go_in;go_wp2;go_ret;exact⟨rfl,rfl⟩
def AB:∀(f n:Nat)(a:YX),n<10 ^ f->gH f n a=if f=0 then a else Lib.decDigits n++a
 |0,n,a,h=>by simp[gH]
 |f+1,n,a,h=>by
  rw[VF<|by omega,gH,Lib.decDigits];by_cases b:n<10
  .rw[VG b,dif_pos b];rfl
  rw[VF b,dif_neg b];have d:n / 10<10 ^ f:=by rw[XK]at h;exact XI<|by omega
  rw[AB f (n / 10) _ d];by_cases c:f=0
  .subst c;simp at d;omega
  rw[VF c];simp
def Bb{n:Int}(c: -9223372036854775808<n)(d:n<=9223372036854775807):Lib.itoa n=fj n:=by
 have e:∀k:Nat,k<=9223372036854775807->Lib.decDigits k=gV k:=λk hk=>by unfold gV;rw[AB 20 k []<|XU hk<|by decide];simp
 have b:n≠-9223372036854775808:=by omega
 unfold Lib.itoa fj;rw[VF b];by_cases a:n<0
 .rw[VG a,VG a,<-e _ (by omega)]
  congr 2
  omega
 rw[VF a,VF a,<-e _ (by omega)]
def LF:fj (-9223372036854775808)=Lib.itoa (-9223372036854775807)++[32,45,32,49]:=by rw[Bb (by decide)<|by decide];kernel_rfl
def Gq(X:mH)(h: -9223372036854775808<=a)(b:a<=9223372036854775807)(d:kO w):Zc prog 72 #[qI a] w<|qF (qT<|fj a) w:=by
 by_cases c:a=-9223372036854775808
 ·subst c;have e:=Z<|X.itoa (-9223372036854775807) w (by omega) (by omega) d;have g:Hid<|(fj<|-9223372036854775808)=Lib.itoa (-9223372036854775807)++[32,45,32,49]:=LF;have j:(Lib.itoa<|-9223372036854775807).length<=20:=by
   rw[Bb (by decide)<|by decide,show fj (-9223372036854775807)=[45,57,50,50,51,51,55,50,48,51,54,56,53,52,55,55,53,56,48,55]from by kernel_rfl];decide
  generalize Lib.itoa (-9223372036854775807)=x at*;go_in;go_wp2_with fail;apply qR e;intro k i;have HB:=Z i;go_wp2;go_ret;exact⟨i5<|g▸jZ x [32,45,32,49],HB⟩
 have e:=Z<|X.itoa a w h b d;have g:(a == -9223372036854775808)=false:=by simp[c]
 go_in;go_wp2_with fail;apply qR e;intro j i;have HB:=Z i;go_wp2;go_ret;exact⟨i5<|by rw[Z<|Bb (n:=a) (by omega) b],HB⟩
structure kM(w:Za):Prop where
 pow:kO w
 max:Mw w
 names:JZ w
def BC: prog.globalNamed "internal/strconv.uint64pow10"=some 5:=by kernel_rfl
def kO.aL{w':Za}(h:kO w)(a:w'.heap[5]?=w.heap[5]?):kO w':=by unfold kO Lib.TabIs Za.var? at*;rw[BC]at*;simp only[Option.bind_some]at*;rw[a];exact h
def kO.lt(h:kO w): 5<w.heap.size:=by
 unfold kO Lib.TabIs Za.var? at h;rw[BC]at h;obtain a|a:=Wx 5 w.heap.size
 .exact a
 rw[Option.bind_some,Xf a]at h;cases h
def kM.aL{w':Za}(h:kM w)(a:∀k,k=5\/k=2\/k=0->w'.heap[k]?=w.heap[k]?):kM w':=
 ⟨h.pow.aL<|a _<|.inl rfl,let ⟨m,hm⟩:=h.max;⟨m,(VK<|a _<|.inr<|.inl rfl).trans hm⟩,λk b c=>(VK<|a _<|.inr<|.inr rfl).trans<|h.names k b c⟩
def kM.c(h:kM w):∀k,k=5\/k=2\/k=0->k<w.heap.size:=by
 rintro k (rfl|rfl|rfl)
 .exact h.pow.lt
 .obtain⟨m,a⟩:=h.max;exact lt_of_cell a
 exact lt_of_cell<|h.names 1 (by omega)<|by omega
def kM.below(h:kM w)(a:qB w W):kM W:=h.aL λk hk=>a.block k<|h.c k hk
def Dr:∀s:YX,(cT s).length<=2*s.length
 |[]=>by simp[cT]
 |c::r=>by have:=Dr r;unfold cT;split<;>simp<;>omega
def JO(X:mH)(v:ai)(w:Za)(p:kM w)(r:dv v):Zc prog 41 #[vV v] w<|qF (qT<|aS v) w:=by
 have e:qB w<|w.alloc<|.cells #[qI v.aC,qI v.n,qT v.s] 34:=qA;have i:=p.below e;have a:=Z e;obtain⟨k,n,s⟩:=v;obtain⟨b,d,c⟩|⟨b,c,g,h⟩|⟨b,d,c⟩|⟨b,d,c⟩:=r
 .simp only at b d c;subst b d c;unfold vV;go_in;go_wp2;go_ret;exact⟨rfl,a⟩
 .simp only at b c g h;subst b c;have j:=Z<|Gq X g h i.pow;have l:Hid<|aS ⟨1,n,[]⟩=fj n:=rfl;unfold vV at*;go_in;go_wp2_with fail;apply qR j;intro q o;have HB:=Z<|a.trans<|o.mono a.size;go_wp2;go_ret;exact⟨i5<|by rw[l],HB⟩
 .simp only at b d c;subst b d;have j:=Z<|X.a s _ (by omega) i.max;have l:Hid<|aS ⟨2,0,s⟩=39::(cT s++[39]):=rfl;have t:(cT s).length<=80:=by have:=Dr s;omega
  generalize cT s=q at*;unfold vV at*;go_in;go_wp2_with fail;apply qR j;intro u o;have HB:=Z<|a.trans<|o.mono a.size;go_wp2;go_ret;exact⟨i5 (by rw[l];exact(Wd (·++_)<|jZ [39] q).trans (jZ (39::q) [39])),HB⟩
 simp only at b d c;subst b c;have j:=Z<|JK (n==1)<|w.alloc<|.cells #[qI 3,qI n,qT ([]:YX)] 34;have l:Hid<|aS ⟨3,n,[]⟩=if (n==1)=true then [84,82,85,69]else [70,65,76,83,69]:=by obtain rfl|rfl:=d<;>rfl
 generalize (if (n==1)=true then ([84,82,85,69]:YX)else [70,65,76,83,69])=x at*;unfold vV at*;go_in;go_wp2_with fail;apply qS j;go_wp2;go_ret;exact⟨i5<|by rw[l],a⟩
def xS(k:Int):(iy k).length<=4:=by
 unfold iy;split
 .decide
 split<;>decide
def Fw(c:YX×Int)(w:Za)(d:kM w)(i:c.1.length<=10)(j:c.2=1\/c.2=2\/c.2=3):Zc prog 39 #[.agg #[qT c.1,qI c.2]] w<|qF (qT<|bM c) w:=by
 obtain⟨x,t⟩:=c;simp only at i j;have a:qB w<|w.alloc<|.cells #[qT x,qI t] 97:=qA;have n:=d.below a;have h:Hid<|bM (x,t)=x++32::iy t:=rfl;obtain⟨k,rfl,e,g⟩:∃k:Nat,t=(k:Int)/\1<=k/\k<=3:=⟨t.toNat,by omega,by omega,by omega⟩;have p:=d.names k e g;have q: 0<w.heap.size:=d.c _<|.inr<|.inr rfl;have o:=xS k;have b:=Z a;generalize iy (k:Nat)=y at*;have l:(k:Int)<4:=by omega
 go_in;go_upto_region 1 with fail
 go_region;all_goals go_wp2_with fail
 all_goals go_ret
 all_goals exact⟨i5 (by rw[h];exact(Wd (·++_)<|jZ x [32]).trans ((jZ (x++[32]) y).trans<|by simp)),b.drew⟩
def Zy:Bool->YX->Option Bool
 |q,[]=>some q
 |q,c::r=>if c=39 then Zy (!q) r else if c=10/\q=false then none else Zy q r
def Zs(l:YX):Prop:=Zy false l=some false
def ZL:∀(q:Bool)(a b:YX),Zy q (a++b)=(Zy q a).bind (λr=>Zy r b)
 |q,[],b=>rfl
 |q,c::a,b=>by
  rw[WU,Zy,Zy,ZL (!q) a b,ZL q a b];repeat' split
  all_goals rfl
def Zs.app{a b:YX}(c:Zs a)(d:Zs b):Zs<|a++b:=by unfold Zs;rw[ZL,show Zy false a=_ from c];exact d
def Zs.plain:∀{l:YX},(∀c∈l,c≠39/\c≠10)->Zs l
 |[],_=>rfl
 |c::l,h=>by have a:=h c (by simp);unfold Zs;rw[Zy,VF a.1,VF λe=>a.2 e.1];exact Zs.plain λx b=>h x<|by simp[b]
def ZM:∀(s r:YX),Zy true (cT s++r)=Zy true r
 |[],r=>rfl
 |c::s,r=>by by_cases h:c=39<;>simp[cT,Zy,h,ZM s r]
def Zs.text(s:YX):Zs<|39::(cT s++[39]):=by unfold Zs;rw[Zy,VG rfl,show(!false)=true from rfl,ZM];rfl
def Zs.join:∀{c:List YX},(∀l∈c,Zs l)->Zs (dG [44,32] c)
 |[],_=>rfl
 |[x],h=>h x<|by simp
 |x::y::r,h=>((h x<|by simp).app (b:=[44,32]) rfl).app<|Zs.join λl a=>h l (by simp at a ⊢;exact .inr a)
def ZO:∀{ls:List YX}{k:Nat},(∀l∈ls,l.length<=k)->(dG [44,32] ls).length<=ls.length*(k+2)
 |[],_,_=>by simp[dG]
 |[x],k,h=>by have:=h x (by simp);simp[dG];omega
 |x::y::r,k,h=>by have c:=h x (by simp);have b:=ZO (ls:=y::r) (k:=k) λl a=>h l (by simp at a ⊢;exact .inr a);simp[dG,YU]at b ⊢;omega
def Z2 {n:Nat}(h:n<10 ^ 20):Zs (gV n)/\(gV n).length<=20:=⟨Zs.plain (λc b=>by
 have a:=(gg c).1<|(tx h).2.1 c b
 constructor<;>(rintro rfl;simp at a)),(tx h).2.2.2⟩
def aam{v:ai}(h:dv v):Zs (aS v)/\(aS v).length<=82:=by
 unfold aS;obtain⟨b,_⟩|⟨b,_,c,d⟩|⟨b,_,c⟩|⟨b,c,_⟩:=h
 .rw[b];exact⟨rfl,by simp⟩
 .rw[b,VG rfl];unfold fj;split
  .exact⟨rfl,by decide⟩
  split
  .have:=Z2 (n:=(-v.n).toNat) (by omega);exact⟨Zs.app (a:=[45]) rfl this.1,by simp;omega⟩
  have:=Z2 (n:=v.n.toNat) (by omega);exact⟨this.1,by omega⟩
 .rw[b];have:=xC v.s;exact⟨Zs.text v.s,by simp;omega⟩
 rw[b];obtain c|c:=c<;>rw[c]<;>exact⟨rfl,by simp⟩
def ZJ(l:YX):Prop:=Zs l/\l.length<600/\∃r,l=[67,82,69,65,84,69]++32::r\/l=[73,78,83,69,82,84]++32::r
def Zw(n:Nat)(t:YX):Prop:=∃ls:List YX,t=(ls.map (·++[10])).flatten/\ls.length<=n/\∀l∈ls,ZJ l
def Zw.app{m:Nat}{a b:YX}:Zw m a->Zw n b->Zw (m+n) (a++b):=by rintro⟨x,rfl,g,d⟩ ⟨y,rfl,h,e⟩;exact⟨x++y,by simp,by simp;omega,λl c=>(V1.1 c).elim (d l)<|e l⟩
def Zw.flat{n:Nat}:∀{a:List YX},(∀l∈a,Zw n l)->Zw (a.length*n) a.flatten
 |[],_=>⟨[],rfl,by simp,by simp⟩
 |l::a,h=>by rw[Wk,YU,Nat.one_mul,aaE];exact(h l<|by simp).app (Zw.flat λx b=>h x<|by simp[b])
def Zw.one(h:ZJ X):Zw 1<|X++[10]:=⟨[X],by simp,by simp,by simpa using h⟩
def Zw.le:Zw n X->X.length<=n*600:=by
 rintro⟨b,rfl,h,a⟩;refine Wf ?_<|Wy 600 h;clear h
 induction b with
 |nil=>simp
 |cons l b ih=>
  have e:=(a l<|by simp).2.1;have c:=ih λx d=>a x (by simp[d]);simp[YU]at c ⊢;omega
def Zw.mono{m:Nat}(h:Zw m X)(c:m<=n):Zw n X:=by obtain⟨d,e,a,b⟩:=h;exact⟨d,e,Wf a c,b⟩
def Z8{ls:List YX}(h:∀l∈ls,Zs l/\l.length<=82)(b:ls.length<=5):Zs (eD ls)/\(eD ls).length<=430:=by have c:=ZO λl b=>(h l b).2;exact⟨Zs.app (a:=[40]) rfl<|(Zs.join λl b=>(h l b).1).app rfl,by simp[eD];omega⟩
def ZR(h:ec K):Zw 156<|xG K:=by
 refine(Zw.flat (n:=26) λx o=>?_).mono (by have:=h.1;simp;omega);obtain⟨t,j,rfl⟩:=VV.1 o;have ok:=h.2 t j;obtain⟨w,d⟩:=ok.name;refine((Zw.one ?_).app<|Zw.flat (n:=1) λy p=>?_).mono (by have:=ok.d;simp;omega)
 ·obtain ⟨e,r⟩:=Z8 (ls:=t.a.map bM) (λl i=>by
   obtain⟨c,g,rfl⟩:=VV.1 i;obtain⟨k,u,q⟩:=ok.a c g;have:Zs (iy c.2)/\(iy c.2).length<=4:=by obtain k|k|k:=k<;>rw[k]<;>exact⟨rfl,by decide⟩
   exact⟨(Zs.plain q).app<|Zs.app (a:=[32]) rfl this.1,by simp[bM];omega⟩)<|by simpa using ok.b
  exact⟨((Zs.app (a:=[67,82,69,65,84,69,32,84,65,66,76,69,32]) rfl<|Zs.plain d).app (b:=[32]) rfl).app e,by simp;omega,_,.inl rfl⟩
 obtain⟨r,i,rfl⟩:=VV.1 p;have c:=ok.rows r i
 obtain ⟨e,q⟩:=Z8 (ls:=r.map aS) (λl g=>by
  obtain⟨v,k,rfl⟩:=VV.1 g
  exact aam<|c.2.1 v k) (by have:=c.1;have:=ok.b;simp[ax]at*;omega)
 exact Zw.one ⟨((Zs.app (a:=[73,78,83,69,82,84,32,73,78,84,79,32]) rfl<|Zs.plain d).app (b:=[32,86,65,76,85,69,83,32]) rfl).app e,by simp;omega,_,.inr rfl⟩
def Zr:aI->YX->Bool->YX->Option aI
 |db,_,_,[]=>some db
 |db,cur,q,c::r=>
  if c=39 then Zr db (cur++[c]) (!q) r
  else if c=10/\q=false then (if (fx db cur).2.err=0 then Zr (fx db cur).1 [] false r else none)
  else Zr db (cur++[c]) q r
def ZK:∀(l:YX){q d:Bool}(db:aI)(a rest:YX),Zy q l=some d->Zr db a q (l++rest)=Zr db (a++l) d rest/\Zq q (l++rest)=l++Zq d rest
 |[],q,d,db,a,rest,h=>by cases h;simp
 |c::l,q,d,db,a,rest,h=>by
  rw[Zy]at h;rw[WU,Zr,Zq];by_cases b:c=39
  .rw[VG b]at h;obtain⟨e,g⟩:=ZK l db (a++[c]) rest h;rw[VG b,VG b,e,g];simp
  rw[VF b]at h;by_cases e:c=10/\q=false
  .rw[VG e]at h;cases h
  rw[VF e]at h;obtain⟨g,i⟩:=ZK l db (a++[c]) rest h;rw[VF b,VF b,VF e,VF e,g,i];simp
def ZS{s:aX}(h:dB D=some (s,E)):s.aC=99:=by
 unfold dB at h;repeat' split at h
 all_goals cases h
 rfl
def ZT{s:aX}(h:dP D=some (s,E)):s.aC=105:=by
 unfold dP at h;repeat' split at h
 all_goals cases h
 rfl
def ZJ.aC{s:aX}(h:ZJ X)(a:bp X=some s):s.aC=99\/s.aC=105:=by
 obtain⟨_,_,r,h⟩:=h;unfold bp at a;split at a
 .cases a
 cases hz:aJ (de X)with
 |none=>rw[hz]at a;cases a
 |some z=>
  rw[hz]at a;unfold kK at a;simp only at a;split at a
  .cases a;rw[gw]at hz;obtain rfl|rfl:=h
   .rw[VF (by rw[show(aO<|[67,82,69,65,84,69]++32::r).1.k=20 from rfl];decide),VF (by rw[show(aO<|[67,82,69,65,84,69]++32::r).1.k=20 from rfl];decide)]at hz;exact .inl<|ZS hz
   rw[VF (by rw[show(aO<|[73,78,83,69,82,84]++32::r).1.k=22 from rfl];decide),VF (by rw[show(aO<|[73,78,83,69,82,84]++32::r).1.k=22 from rfl];decide)]at hz;exact .inr<|ZT hz
  cases a
def aad(h:ZJ X):Zp K (X++[10])=if (fx K X).2.err=0 then some (fx K X).1 else none:=by
 unfold Zp fx;rw[Z_ h.2.1];cases hp:bp X with
 |none=>rfl
 |some s=>
  obtain hk|hk:=h.aC hp<;>simp[d_,hk]
def Z3:∀(a:List YX)(db:aI),(∀l∈a,ZJ l)->Zu db (a.map (·++[10])).flatten=Zr db [] false (a.map (·++[10])).flatten
 |[],db,_=>rfl
 |l::a,db,h=>by
  have c:=h l (by simp);have d:aaa l:=λrest=>(ZK l db [] rest c.1).2;rw[We,Yo];generalize g:(a.map (·++[10])).flatten=r;have e:Zr db ([]++l) false (10::r)=if (fx db l).2.err=0 then Zr (fx db l).1 [] false r else none:=by rw[Zr,VF<|by decide,VG ⟨rfl,rfl⟩];rfl
  rw[ZH<|by simp,d.line,aad c,YH,Wh,(ZK l db [] _ c.1).1,aaD,e];by_cases b:(fx db l).2.err=0
  .rw[VG b,VG b,<-g];exact Z3 a _ λx i=>h x<|by simp[i]
  rw[VF b,VF b]
def ZX{a:aI}(h:Zp K X=some a):a=(fx K X).1:=by
 unfold Zp at h;unfold fx;cases hp:bp X with
 |none=>rw[hp]at h;cases h
 |some s=>
  rw[hp]at h;simp only[d_]at h ⊢;repeat' split at h
  all_goals first
   |(cases h;done)
   |(injection h with h;subst h;simp[*])
def ZQ:∀(n:Nat){db D:aI}{t:YX},t.length<n->ec db->Zu db t=some D->ec D
 |0,_,_,_,h,_,_=>by omega
 |n+1,db,D,t,hn,ho,h=>by
  by_cases a:t=[]
  .subst a;cases h;exact ho
  rw[ZH a]at h;cases af:Zp db (Zo t)with
  |none=>rw[af]at h;cases h
  |some db'=>
   rw[af]at h;have:=ZA (q:=false) a;exact ZQ n (by have:=ZP t;simp[Zo]at*;omega) (ZX af▸ZW ho) h
def ZC:∀(t:YX){db D:aI}{a:YX}{q:Bool},ec db->Zr db a q t=some D->ec D
 |[],_,_,_,_,ho,h=>by cases h;exact ho
 |c::t,db,D,a,q,ho,h=>by
  rw[Zr]at h;repeat' split at h
  .exact ZC t ho h
  .exact ZC t (ZW ho) h
  .cases h
  exact ZC t ho h
def Zt(t:YX):Option aI:=match Zu [] t with
 |none=>none
 |some db=>if xG db=t then some db else none
def Zz(t:YX):Option aI:=match Zr [] [] false t with
 |none=>none
 |some db=>if xG db=t then some db else none
def aae(t:YX):Zt t=Zz t:=by
 have key:∀D,ec D->xG D=t->Zu [] t=Zr [] [] false t:=λD c hs=>by obtain⟨d,e,_,a⟩:=ZR c;rw[<-hs,e];exact Z3 d [] a
 have b:ec []:=⟨by simp,by simp⟩;unfold Zt Zz;cases ha:Zu [] t with
 |some D=>
  by_cases hs:xG D=t
  .rw[<-key D (ZQ _ (WC _) b ha) hs,ha]
  cases hb:Zr [] [] false t with
  |none=>simp[hs]
  |some E=>
   by_cases a:xG E=t
   .have:=key E (ZC t b hb) a;rw[ha,hb]at this;cases this;exact absurd a hs
   simp[hs,a]
 |none=>
  cases hb:Zr [] [] false t with
  |none=>rfl
  |some E=>
   by_cases a:xG E=t
   .have:=key E (ZC t b hb) a;rw[ha,hb]at this;cases this
   simp[a]
