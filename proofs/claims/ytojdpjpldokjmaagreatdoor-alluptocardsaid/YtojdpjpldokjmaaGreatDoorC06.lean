import Derived.Test.YtojdpjpldokjmaaGreatDoorC04
import Derived.Test.YtojdpjpldokjmaaGreatDoorC05
set_option maxHeartbeats 0
set_option maxRecDepth 100000
set_option linter.all false
namespace Go.Proofs.YtojdpjpldokjmaaGreatDoor
open Go.Deep Go.RowKit Tryz
open Go renaming World->Za,Value->Zb,Calls->Zc,TypeId->Zf,results->Zh
open RowKit renaming Hid->Ze,intOf->Zk
variable{X:YX}{i k n:Nat}{b:Bool}{W w x:World}{D E:YV}{M a:Int}{A u z:Value}
def TT(a:Za)(n:Int):(convert 83 9<|qL a.heap.size 1 1).run prog (a.alloc<|.cells #[.int .u8 n] 5)=.ok (.string ⟨#[UInt8.ofNat n.toNat]⟩) (a.alloc<|.cells #[.int .u8 n] 5):=by
 have h:=run_convert_bytes_arg (P:=prog) (a.alloc<|.cells #[.int .u8 n] 5) 83 5 underlying83 underlying5 a.heap.size 0 1 1 [n] rfl (by
  intro i hi;have:i=0:=by omega
  subst this
  simp) 9 underlying9
 rw[h];simp[strOfNums]
def M7(x:UInt8)(a:YX):(({data:=#[x]}:Y9)++{data:=a.toArray})=⟨(x::a).toArray⟩:=by have:=ByteArray.mk_append_mk [x] a;rw[show(#[x]:Array UInt8)=[x].toArray from rfl,this];rfl
def PI(m:Nat):48+UInt8.ofNat (m % 10)=UInt8.ofNat (48+m % 10):=by rw[UInt8.ofNat_add];rfl
def xy(c:Int)(n:Nat):Nat:=(if c<0 then (-(c+1)).toNat else c.toNat) % n
def KU(p:Addr)(i:Nat):(p.add i).block=p.block:=by unfold Addr.add;split<;>rfl
def Zv(l:YX)(k:Nat)(q:Bool):Prop:=Zo l=l.take k++Zq q (l.drop k)
def Zv.start(l:YX):Zv l 0 false:=by simp[Zv,Zo]
def ZG(h:k<X.length):X.drop k=X[k]::X.drop (k+1)/\X.take (k+1)=X.take k++[X[k]]:=⟨VJ h,(XS h).symm⟩
def Zv.quote(h:Zv X k b)(a:k<X.length)(c:X[k].toNat=39):Zv X (k+1)<|!b:=by unfold Zv at*;have e:X[k]=39:=Wg.1 c;rw[h,(ZG a).1,(ZG a).2,Zq,VG e,Wh];rfl
def Zv.aY(h:Zv X k b)(c:k<X.length)(d:X[k].toNat≠39)(a:X[k].toNat≠10\/b=true):Zv X (k+1) b:=by
 unfold Zv at*
 rw [h,(ZG c).1,(ZG c).2,Zq,VF λe=>d (by rw [e];rfl),VF (λe=>by
  obtain a|a:=a
  .exact a (by rw[e.1];rfl)
  .rw[a]at e;cases e.2),Wh]
 rfl
def Zv.done(h:Zv X k false)(b:k<X.length)(a:X[k].toNat=10):(Zo X).length=k+1:=by unfold Zv at h;have e:X[k]=10:=Wg.1 a;rw[h,(ZG b).1,Zq,VF (by rw[e];decide),VG ⟨e,rfl⟩];simp;omega
def Zv.last(h:Zv X X.length b):(Zo X).length=X.length:=by unfold Zv at h;rw[h];simp[Zq]
def toList_data(r:Y9):r.toList=r.data.toList:=ByteArray.toList_eq r
def ZD(s:Y9):s.data.toList.length=s.size:=by rw[Array.length_toList];rfl
def aac(s:Y9)(w:Za)(y:s.size<=1048576):
 Zc prog 45 #[.string s] w (qE (.string<|s.extract 0 (Zo s.data.toList).length) w):=by
 have n:=Z<|Zv.start s.data.toList;have c:=Z<|ZD s;have g:Ze<|s.extract 0 s.size=s:=by unfold Ze;simp
 go_in;go_wp2
 go_loopw [3,7] (λu x wr=>∃(k:Nat) (q:Bool),k<=s.size/\x=qI (k:Nat)/\u=.bool q/\Ze (Zv s.data.toList k q)/\Ze (wr=w)) (λ_ b _=>s.size-(Zk b).toNat)
 exact⟨0,false,qO,rfl,rfl,n,rfl⟩
 case round=>
  obtain⟨k,q,hk,rfl,rfl,i,j⟩:=hrel;by_cases o:k<s.size
  .have a:Ze (∃h:k<s.data.toList.length,s.data.toList[k]=s[k]):=⟨by rw[c];exact o,by simp[ByteArray.getElem_eq_getElem_data]⟩;by_cases d:s[k].toNat=39
   .have p:(((s[k].toNat:Nat):Int)==39)=true:=by simp;omega
    have l:Ze<|Zv s.data.toList (k+1)<|!q:=by obtain⟨h,e⟩:=a.o;exact i.quote h<|e▸d
    clear a d;go_wp2;go_roundw;exact⟨k+1,!q,by omega,by go_num,rfl,l,j⟩;simp[Zk];omega
   have r:(((s[k].toNat:Nat):Int)==39)=false:=by simp;omega
   by_cases l:s[k].toNat=10
   .have t:(((s[k].toNat:Nat):Int)==10)=true:=by simp;omega
    cases q with
    |true=>
     have p:Ze<|Zv s.data.toList (k+1) true:=by obtain⟨h,e⟩:=a.o;exact i.aY h (e▸d)<|.inr rfl
     clear a d l;go_wp2;go_roundw;exact⟨k+1,true,by omega,by go_num,rfl,p,j⟩;simp[Zk];omega
    |false=>
     have p:Ze<|(Zo s.data.toList).length=k+1:=by obtain⟨h,e⟩:=a.o;exact i.done h<|e▸l
     clear a d l;go_wp2;go_ret;exact⟨by rw[p];simp,j⟩
   have t:(((s[k].toNat:Nat):Int)==10)=false:=by simp;omega
   have p:Ze<|Zv s.data.toList (k+1) q:=by obtain⟨h,e⟩:=a.o;exact i.aY h (e▸d)<|.inl<|e▸l
   clear a d l;go_wp2;go_roundw;exact⟨k+1,q,by omega,by go_num,rfl,p,j⟩;simp[Zk];omega
  obtain rfl:k=s.size:=by omega
  have a:Ze<|(Zo s.data.toList).length=s.size:=by have h:=i.o;rw[<-c]at h;unfold Ze;rw[h.last,c]
  go_wp2;go_ret;exact⟨by rw[a,g];simp,j⟩
def OY(k:Int):Zf:=if k=99 then 131 else if k=105 then 133 else if k=100 then 135 else if k=117 then 137 else 139
def QX(w:Za)(rb:Nat)(T:YV)(b:Bool)(spec:Option<|aX×YV)(e:Ending)(w':Za):Prop:=
 aH rb w w'/\∃v:Zb,e=.returned v/\match spec with
  |some (s,r)=>(∃n:Nat,v=.iface (OY s.aC) (qP n)/\Ae w' rb w.heap.size s n)/\RC w' rb T r 0 b
  |none=>RC w' rb T [] 0 true
def Ae.base{base:Nat}{s:aX}(h:Ae w k base s n)(a:i<=base):Ae w k i s n:=by
 obtain⟨l,h⟩:=h;refine⟨by omega,?_⟩;split
 .rename_i hk;rw[VG hk]at h;obtain⟨v,b,c⟩:=h;exact⟨v,b,c.base a⟩
 rename_i hk;rw[VF hk]at h;split
 .rename_i hk;rw[VG hk]at h;obtain⟨v,b,c⟩:=h;exact⟨v,b,c.base a⟩
 rename_i hk;rw[VF hk]at h;split
 .rename_i hk;rw[VG hk]at h;exact h
 rename_i hk;rw[VF hk]at h;split
 .rename_i hk;rw[VG hk]at h;obtain⟨u,v,b,c,d⟩:=h;exact⟨u,v,b,c.base a,d⟩
 rename_i hk;rw[VF hk]at h;obtain⟨u,x,v,o,c,b,d,e,g⟩:=h;refine⟨u,x,v,o,c,?_,d.base a,e,g.base a⟩;split
 .rename_i j;rw[VG j]at b;exact b
 rename_i j;rw[VF j]at b;exact b.base a
def Ae.d{s:aX}(h:Ae w k i s n)(a:aH k w W)(c:k<i):Ae W k i s n:=by
 obtain⟨e,h⟩:=h;refine⟨e,?_⟩;split
 .rename_i g;rw[VG g]at h;obtain⟨v,b,d⟩:=h;exact⟨v,a.q (by omega) b,d.d a c⟩
 rename_i b;rw[VF b]at h;split
 .rename_i b;rw[VG b]at h;obtain⟨v,d,g⟩:=h;exact⟨v,a.q (by omega) d,g.d a c⟩
 rename_i b;rw[VF b]at h;split
 .rename_i b;rw[VG b]at h;obtain⟨v,d,g⟩:=h;exact⟨v,a.q (by omega) d,g.d a⟩
 rename_i b;rw[VF b]at h;split
 .rename_i b;rw[VG b]at h;obtain⟨u,v,d,g,j⟩:=h;exact⟨u,v,a.q (by omega) d,g.d a c,j.d a⟩
 rename_i b;rw[VF b]at h;obtain⟨u,x,v,o,g,d,j,l,p⟩:=h;refine⟨u,x,v,o,a.q (by omega) g,?_,j.d a c,l.d a,p.d a c⟩;split
 .rename_i q;rw[VG q]at d;exact d
 rename_i q;rw[VF q]at d;exact d.d a c
def F_{s:aX}(h:dB D=some (s,E)):s.aC=99:=by
 unfold dB at h;repeat' (split at h)
 all_goals first
  |(cases h;done)
  |(cases h;rfl)
def Gb{s:aX}(h:dP D=some (s,E)):s.aC=105:=by
 unfold dP at h;repeat' (split at h)
 all_goals first
  |(cases h;done)
  |(cases h;rfl)
def Ga{s:aX}(h:ez D=some (s,E)):s.aC=100:=by
 unfold ez at h;repeat' (split at h)
 all_goals first
  |(cases h;done)
  |(cases h;rfl)
def Ge{s:aX}(h:eA D=some (s,E)):s.aC=117:=by
 unfold eA at h;repeat' (split at h)
 all_goals first
  |(cases h;done)
  |(cases h;rfl)
def Gc{s:aX}(h:ck D=some (s,E)):s.aC=115:=by
 unfold ck at h;split at h
 .cases h
 rw[Gz]at h;unfold Mp at h;split at h
 .unfold TS at h;split at h
  .cases h
  unfold Tf at h;split at h
  .cases h
  unfold Tg at h;split at h
  .cases h
  unfold Vt ik at h;split at h
  .cases h
  cases h;rfl
 cases h
def ri.c {T:YV}{e:Option (aX × YV)}{j:Zf}(d:aH i w W)(k:aH i W x)(g:match e with
 |some (s,r)=>Ae x i W.heap.size s n/\RC x i T r 0 b
 |none=>RC x i T [] 0 true) (c:∀s r,e=some (s,r)->s.aC=a) (h:OY a=j):QX w i T b e (.returned<|.iface j<|qP n) x:=by
 refine⟨d.trans k,_,rfl,?_⟩;cases e with
 |none=>exact g
 |some y=>
  obtain⟨s,r⟩:=y;refine⟨⟨n,by rw[c _ _ rfl,h],g.1.base d.size⟩,g.2⟩
def JB{T:YV}(b:Bool)(I:RC w k T D 0 b)(A:∀t∈T,t.k=2->0<=t.n):
 Zc prog 62 #[qP k] w (QX w k T b<|aJ D):=by
 have q:=Z<|aH.refl k w;have P:=I.lt;have E:=Z A;have a:=Z<|fO 20 (by decide) k T D 0 b w I;go_in;by_cases d:(af D).k=20
 .have p:Ze<|aJ D=dB D.tail:=by rw[Ze,aJ,VG d]
  rw[nE d,(eg (b:=b)<|nE d).2.2.2]at a;go_wp2_with fail;apply qR a;rintro R⟨i,hk⟩;have K:=Z<|q.trans hk;have J:=Z<|PB b i;go_wp2_with refine J.mono ?_;rintro e B⟨c,n,rfl,G⟩;have F:=Z G;have C:=Z c;go_wp2;go_ret;rw[p];exact ri.c K C F (λs r h=>F_ h) rfl
 rw[nN d,(fC (b:=b)<|nN d).2.2.2]at a;go_wp2_with fail;apply qR a;rintro L⟨i,hk⟩;have u:=Z<|q.trans hk;replace a:=Z<|fO 22 (by decide) k T D 0 b L i;by_cases g:(af D).k=22
 .have p:Ze<|aJ D=dP D.tail:=by rw[Ze,aJ,VF d,VG g]
  rw[nE g,(eg (b:=b)<|nE g).2.2.2]at a;go_wp2_with fail;apply qR a;rintro R⟨i,hk⟩;have K:=Z<|u.trans hk;have J:=Z<|insertC b i;go_wp2_with refine J.mono ?_;rintro e B⟨c,n,rfl,G⟩;have F:=Z G;have C:=Z c;go_wp2;go_ret;rw[p];exact ri.c K C F (λs r h=>Gb h) rfl
 rw[nN g,(fC (b:=b)<|nN g).2.2.2]at a;go_wp2_with fail;apply qR a;rintro M⟨i,hk⟩;have x:=Z<|u.trans hk;replace a:=Z<|fO 25 (by decide) k T D 0 b M i;by_cases j:(af D).k=25
 .have p:Ze<|aJ D=ez D.tail:=by rw[Ze,aJ,VF d,VF g,VG j]
  rw[nE j,(eg (b:=b)<|nE j).2.2.2]at a;go_wp2_with fail;apply qR a;rintro R⟨i,hk⟩;have K:=Z<|x.trans hk;have J:=Z<|PG b i;go_wp2_with refine J.mono ?_;rintro e B⟨c,n,rfl,G⟩;have F:=Z G;have C:=Z c;go_wp2;go_ret;rw[p];exact ri.c K C F (λs r h=>Ga h) rfl
 rw[nN j,(fC (b:=b)<|nN j).2.2.2]at a;go_wp2_with fail;apply qR a;rintro N⟨i,hk⟩;have y:=Z<|x.trans hk;replace a:=Z<|fO 28 (by decide) k T D 0 b N i;by_cases l:(af D).k=28
 .have p:Ze<|aJ D=eA D.tail:=by rw[Ze,aJ,VF d,VF g,VF j,VG l]
  rw[nE l,(eg (b:=b)<|nE l).2.2.2]at a;go_wp2_with fail;apply qR a;rintro R⟨i,hk⟩;have K:=Z<|y.trans hk;have J:=Z<|QJ b i;go_wp2_with refine J.mono ?_;rintro e B⟨c,n,rfl,G⟩;have F:=Z G;have C:=Z c;go_wp2;go_ret;rw[p];exact ri.c K C F (λs r h=>Ge h) rfl
 rw[nN l,(fC (b:=b)<|nN l).2.2.2]at a;go_wp2_with fail;apply qR a;rintro O⟨i,hk⟩;have z:=Z<|y.trans hk;replace a:=Z<|fO 30 (by decide) k T D 0 b O i;by_cases o:(af D).k=30
 .have p:Ze<|aJ D=ck D.tail:=by rw[Ze,aJ,VF d,VF g,VF j,VF l,VG o]
  rw[nE o,(eg (b:=b)<|nE o).2.2.2]at a;go_wp2_with fail;apply qR a;rintro J⟨i,hk⟩;go_wp2_with apply(Z<|Js b i E).mono;rintro e B⟨c,n,rfl,G⟩;have F:=Z G;have C:=Z c;go_wp2;go_ret;rw[p];exact ri.c (Z<|z.trans hk) C F (λs r h=>Gc h) rfl
 rw[nN o,(fC (b:=b)<|nN o).2.2.2]at a;go_wp2_with fail;apply qR a;rintro Q⟨i,hk⟩;have p:Ze<|aJ D=none:=by rw[Ze,aJ,VF d,VF g,VF j,VF l,VF o]
 go_wp2_with fail;apply qR<|Z<|A0 b i;rintro B⟨H,c⟩;go_wp2;go_ret;exact⟨(Z<|z.trans hk).trans c,_,rfl,by rw[p];exact H⟩
def MA(w:Za)(l:YX)(e:Ending)(w':Za):Prop:=
 qB w w'/\match bp l with
  |some s=>∃rb n:Nat,e=.returned (.tuple #[.iface (OY s.aC)<|qP n,.bool true])/\w.heap.size<=rb/\Ae w' rb w.heap.size s n
  |none=>e=.returned (.tuple #[.nilIface,.bool false])
def L_{rb:Nat}{v:Zb}{T:YV}(h:w.ownsRow n 180 3 v T.length<|jw T)(i:T.length<=1048576)(j:w.heap.size<=rb):rj w rb v T:=by
 refine⟨i,?_⟩;obtain⟨c,d⟩|⟨g,cap,a,k,q,b,l,o,p,e⟩:=h.2
 .exact .inl ⟨c,V3.1 d⟩
 exact .inr ⟨g,cap,a,k,by have:=lB b;omega,b,e⟩
def rj.alloc{v:Zb}{T:YV}(h:rj w n v T)(o:Obj):rj (w.alloc o) n v T:=by
 obtain⟨b,h⟩:=h;refine⟨b,?_⟩;obtain h|⟨g,cap,a,c,d,e,i⟩:=h
 .exact .inl h
 exact .inr ⟨g,cap,a,c,d,bA e _,i⟩
def F0(b:qB w W)(a:aH n W x)(c:w.heap.size<=n):qB w x:=
 b.trans ⟨a.os,a.tape,a.output,a.size,λi hi=>a.block i (by have:=b.size;omega)<|by omega⟩
def Ur(X:lL)(s:Y9)(hs:s.size<=1048576)(V:iC w)(U:lJ w):
 Zc prog 35 #[.string s] w (MA w s.data.toList):=by
 by_cases d:600<s.size
 .have a:Ze<|bp s.data.toList=none:=by rw[Ze,bp,VG<|by simpa using d]
  go_in;go_wp2;exact VI (v:=.tuple #[.nilIface,.bool false]) (by simp[Zh,results35,go_sem]) rfl ⟨VM _ _,by rw[a]⟩
 .have E:Ze<|bp s.data.toList=kK (aJ<|de s.data.toList):=by rw[Ze,bp,VF<|by simpa using d]
  have N:s.data.toList.length<=600:=by simpa using d
  have H:=Z<|vM _ s.data.toList<|WC _;have HB:=Z λh=>Es (l:=s.data.toList) h;go_in;go_wp2_with apply(Z<|PE X s hs V U).mono;rintro e g⟨z,W⟩;obtain⟨B,a,n,c,rfl,C⟩|⟨B,rfl⟩:=W
  ·have F:=Z z;have D:=z.size;have aa:=(Z<|oI _ s.data.toList<|WC _).o;generalize de s.data.toList=T at*;have S:RC (g.alloc<|.cells #[.slice a n c,qI 0,qI 0,.bool false] 126) g.heap.size T T 0 false:=
    ⟨_,0,aM _ _,by omega,rfl,λh=>(by cases h),(L_ (rb:=g.heap.size) C (by omega)<|VR _).alloc _⟩
   have P:=Z<|JB false S λt ht hk=>((H t ht).1 hk).1;go_wp2_with refine P.mono ?_;rintro e L⟨I,v,rfl,i⟩;have G:Ze (∃j x,RC L g.heap.size T j 0 x/\((x=false/\∃o,aJ T=some (o,j)/\∃n:Nat,v=.iface (OY o.aC) (qP n)/\Ae L g.heap.size (g.heap.size+1) o n)\/(x=true/\j=[]/\aJ T=none))):=by
    unfold Ze;cases hv:aJ T with
    |none=>rw[hv]at i;exact⟨[],true,i,.inr ⟨rfl,rfl,rfl⟩⟩
    |some y=>
     obtain⟨o,r⟩:=y;rw[hv]at i;obtain⟨⟨n,J,O⟩,Q⟩:=i;exact⟨r,false,Q,.inl ⟨rfl,o,rfl,n,J,by simpa using O⟩⟩
   obtain⟨j,x,K,(q:Ze _)⟩:=G.o;go_wp2_with fail;apply qR<|Z<|fO 11 (by decide) g.heap.size T j 0 x L K;rintro w3⟨A,(k:Ze _)⟩;obtain⟨r2,r3,rf⟩:=A.c;have ab:=A.lt;have u:=Z<|uG x A;have b:Ze<|tl j 11=iT j:=by unfold Ze tl hk iT;simp
   have p:Ze (∀M,aH g.heap.size w3 M->qB w M):=λM hz=>F0 F ((Z<|(Z<|((aH.refl g.heap.size g).alloc<|.cells #[.slice a n c,qI 0,qI 0,.bool false] 126).trans I).trans k).trans hz) D;cases x with
   |true=>
    have r:Ze<|bp s.data.toList=none:=by
     unfold Ze;obtain⟨h,_⟩|⟨_,_,h⟩:=q.o
     .cases h
     rw[E,h];rfl
    go_wp2;exact VI (v:=.tuple #[.nilIface,.bool false]) (by simp[Zh,results35,go_sem]) rfl ⟨p _<|aH.refl _ _,by rw[r]⟩
   |false=>
    by_cases y:(af<|tl j 11).k=0
    .rw[y]at u;go_wp2_with fail;apply qR u;rintro w4⟨Y,J⟩;have r:=Z J;go_wp2_with fail;refine VI (v:=.tuple #[v,.bool true]) (by simp[Zh,results35,go_sem]) rfl ⟨p _ r,?_⟩;obtain⟨_,o,O,n',Q,R⟩|⟨h,_⟩:=q.o
     ·have e:bp s.data.toList=some o:=by
       rw[E,O];simp only[kK];rw[<-b,VG y]
      rw[e];exact⟨g.heap.size,n',by rw[Q],D,(R.d (k.trans r)<|by omega).base<|by omega⟩
     cases h
    have O:Ze<|bp s.data.toList=none:=by
     unfold Ze;obtain⟨_,o,Q,_⟩|⟨h,_⟩:=q.o
     .rw[E,Q];simp only[kK];rw[<-b,VF y]
     cases h
    have Y:(((af<|tl j 11).k:Int) != 0)=true:=by simp;omega
    go_wp2_with fail;apply qR u;rintro w4⟨R,J⟩;have r:=Z J;go_wp2;exact VI (v:=.tuple #[.nilIface,.bool false]) (by simp[Zh,results35,go_sem]) rfl ⟨p _ r,by rw[O]⟩
  have i:Ze<|bp s.data.toList=none:=by rw[Ze,E,HB B]
  have b:=Z z;go_wp2;exact VI (v:=.tuple #[.nilIface,.bool false]) (by simp[Zh,results35,go_sem]) rfl ⟨b,by rw[i]⟩
def vV(v:ai):Zb:=.agg #[qI v.aC,qI v.n,qT v.s]
def KN(v:ai):vV v=.agg #[qI v.aC,qI v.n,qT v.s]:=rfl
def jW:aV ai->Zb
 |.ok v=>.tuple #[vV v,qI 0]
 |.error e=>.tuple #[vV aE,qI (e:Nat)]
def tM(n:Int):Prop:=-9223372036854775808<=n/\n<=9223372036854775807
def EU(n:Int)(h: -9223372036854775808<=n/\n<=9223372036854775807):wrap64 n=n:=by unfold wrap64;omega
def QS(n:Int):∃k:Int,wrap64 n=n-k*18446744073709551616/\tM (wrap64 n):=by
 refine⟨(n+9223372036854775808) / 18446744073709551616,?_,?_⟩
 .unfold wrap64;omega
 unfold tM wrap64;omega
def Hm(m b:Int):(m.tdiv b).natAbs<=m.natAbs:=by rw[X8];exact YC _ _
def NU(p:tM a)(q:tM M)(i:M≠0)(o:M≠-1):(wrap64 ((wrap64<|a*M).tdiv M)==a)=decide (-9223372036854775808<=a*M/\a*M<=9223372036854775807):=by
 obtain⟨k,hk,d⟩:=QS<|a*M;have n:wrap64 ((wrap64<|a*M).tdiv M)=(wrap64<|a*M).tdiv M:=by
  have g:=Hm (wrap64<|a*M) M;apply EU;unfold tM at d;obtain l|l:=Int.lt_or_le (wrap64<|a*M)<|-9223372036854775807
  .have e:wrap64 (a*M)=-9223372036854775808:=by omega
   rw[e]at g ⊢;have h:((-9223372036854775808:Int).tdiv M).natAbs<=4611686018427387904\/M=1:=by
    by_cases b:M=1
    .exact .inr b
    left;rw[X8];have:2<=M.natAbs:=by omega
    exact Wf (XP this<|by decide)<|by decide
   obtain h|rfl:=h
   .omega
   rw[YQ];omega
  omega
 rw[n];have c:=Int.mul_tdiv_add_tmod (wrap64<|a*M) M;have j:(Int.tmod (wrap64<|a*M) M).natAbs<M.natAbs:=by rw[YA];exact Yx _<|by omega
 unfold tM at*;rw[WB];simp only[beq_iff_eq,decide_eq_true_eq];constructor
 .intro g;rw[g,Int.mul_comm M a]at c;have b:k=0:=by omega
  subst b;omega
 intro b;rw[EU _ b,Int.mul_tdiv_cancel _ i]
def MJ(b:tM a)(c:tM M):(decide (a<wrap64 (a+M))==decide (0<M))=decide (-9223372036854775808<=a+M/\a+M<=9223372036854775807):=by unfold tM at*;unfold wrap64;rw[WB];simp only[beq_iff_eq,decide_eq_decide,decide_eq_true_eq];omega
def OQ(b:tM a)(c:tM M):(decide (wrap64 (a-M)<a)==decide (0<M))=decide (-9223372036854775808<=a-M/\a-M<=9223372036854775807):=by unfold tM at*;unfold wrap64;rw[WB];simp only[beq_iff_eq,decide_eq_decide,decide_eq_true_eq];omega
def LU(n:Int)(f:Bool):Zb:=if f=true then .tuple #[.agg #[qI 1,qI n,.string ⟨#[]⟩],qI 0]else .tuple #[.agg #[qI 0,qI 0,.string ⟨#[]⟩],qI 4]
def qJ(f:Bool):Zc prog 290 #[qI a,.bool f] w<|qF (LU a f) w:=by
 cases f
 .go_in;go_wp2;exact VI (v:=LU a false) (by simp[Zh,results290,go_sem,LU]) rfl ⟨rfl,qA⟩
 go_in;go_wp2;exact VI (v:=LU a true) (by simp[Zh,results290,go_sem,LU]) rfl ⟨rfl,qA⟩
def TV(j:tM a)(k:tM M)(w:Za):Zc prog 319 #[qI a,qI M] w<|qE (.bool<|decide<|-9223372036854775808<=a*M/\a*M<=9223372036854775807) w:=by
 obtain⟨b,c⟩:=j;obtain⟨d,e⟩:=k;have i:Ze<|tM a:=⟨b,c⟩;have HB:Ze<|tM M:=⟨d,e⟩;go_in;go_wp2;all_goals
  go_ret;refine⟨oA ?_,rfl⟩
 .have h:M=-1:=by simpa using ‹(M == -1)=true›
  subst h;rw[WB];simp;omega
 .subst ‹M=0›;simp
 .have h:M≠-1:=by simpa using ‹(M == -1)=false›
  have g:¬M=0:=‹¬M=0›;rw[NU i HB g h];simp[g]
def Na(j:tM a)(k:tM M)(g:M≠0):(a != -9223372036854775808||M != -1)=decide (-9223372036854775808<=a.tdiv M/\a.tdiv M<=9223372036854775807):=by
 unfold tM at*;have d:=Hm a M;rw[WB];simp only[Yz,bne_iff_ne,decide_eq_true_eq];constructor
 .intro h;by_cases e:a=-9223372036854775808
  .subst e;have c:M≠-1:=by obtain h|h:=h;exact absurd rfl h;exact h
   by_cases b:M=1
   .subst b;rw[YQ];omega
   have i:((-9223372036854775808:Int).tdiv M).natAbs<=4611686018427387904:=by
    rw[X8];have:2<=M.natAbs:=by omega
    exact Wf (XP this<|by decide)<|by decide
   omega
  omega
 intro h;by_cases c:a=-9223372036854775808
 .right;intro b;subst c b;rw[Int.tdiv_neg,YQ]at h;omega
 exact .inl c
def oC(n:Int):LU (wrap64 n) (decide<|-9223372036854775808<=n/\n<=9223372036854775807)=jW (fe n):=by
 unfold LU fe jW;by_cases h: -9223372036854775808<=n/\n<=9223372036854775807
 .rw[EU n h];simp[h,vV]
 simp[h,vV,aE]
def jS(o:aV ai):∃a m l:Int,∃s:Y9,jW o=.tuple #[.agg #[qI a,qI m,.string s],qI l]:=by
 cases o
 .exact⟨_,_,_,_,rfl⟩
 exact⟨_,_,_,_,rfl⟩
def Qo(z:6<=n)(q:n<=10)(c:tM a)(d:tM M)(w:Za):Zc prog 292 #[qI ((n+2:Nat):Int),qI a,qI M] w λe t=>e=.returned (jW<|dd n a M)/\qB w t:=by
 have u:=Z c;have HB:=Z d;have r:n=6\/n=7\/n=8\/n=9\/n=10:=by omega
 obtain rfl|rfl|rfl|rfl|rfl:=r
 ·have i:Ze<|LU (wrap64<|a+M) (decide (a<wrap64 (a+M))==decide (0<M))=jW (dd 6 a M):=by
   rw[Ze,MJ c d,oC];rfl
  go_in;go_wp2_with apply(qJ _).mono;rw[i];obtain⟨x,m,l,s,g⟩:=jS<|dd 6 a M;rw[g];have h:=Z g;rintro e k⟨rfl,b⟩;obtain⟨c1,j⟩:=dN b;go_wp2_with refine VI (v:=.tuple #[.agg #[qI x,qI m,.string s],qI l]) ?_ rfl ⟨by rw[h],eJ (qA.trans<|b.mono<|by simp) _ _ _⟩;simp[Zh,results292,go_sem,c1]
 ·have i:Ze<|LU (wrap64<|a-M) (decide (wrap64 (a-M)<a)==decide (0<M))=jW (dd 7 a M):=by
   rw[Ze,OQ c d,oC];rfl
  go_in;go_wp2_with apply(qJ _).mono;rw[i];obtain⟨x,m,l,s,g⟩:=jS<|dd 7 a M;rw[g];have h:=Z g;rintro e k⟨rfl,b⟩;obtain⟨c1,j⟩:=dN b;go_wp2_with refine VI (v:=.tuple #[.agg #[qI x,qI m,.string s],qI l]) ?_ rfl ⟨by rw[h],eJ (qA.trans<|b.mono<|by simp) _ _ _⟩;simp[Zh,results292,go_sem,c1]
 ·have h:Ze<|LU (wrap64<|a*M) (decide<|-9223372036854775808<=a*M/\a*M<=9223372036854775807)=jW (dd 8 a M):=by
   rw[Ze,oC];rfl
  have b:=Z<|TV c d;generalize decide (-9223372036854775808<=a*M/\a*M<=9223372036854775807)=f at h b;go_in;go_wp2_with apply qS (b _);go_wp2_with apply(qJ _).mono;rw[h];obtain⟨x,m,l,s,i⟩:=jS<|dd 8 a M;rw[i];have j:=Z i;rintro e o⟨rfl,g⟩;obtain⟨c1,k⟩:=dN g;go_wp2_with refine VI (v:=.tuple #[.agg #[qI x,qI m,.string s],qI l]) ?_ rfl ⟨by rw[j],eJ (qA.trans<|g.mono<|by simp) _ _ _⟩;simp[Zh,results292,go_sem,c1]
 .skip
  by_cases h:M=0
  .subst h;go_in;go_wp2_with refine VI (v:=.tuple #[.agg #[qI 0,qI 0,.string ⟨#[]⟩],qI 5]) ?_ rfl ⟨rfl,qA⟩;simp[Zh,results292,go_sem]
  have p:(M==0)=false:=by simpa using h
  have g:Ze<|LU (wrap64<|a.tdiv M) (a != -9223372036854775808||M != -1)=jW (dd 9 a M):=by unfold Ze;rw[Na c d h,oC];unfold dd;rw[VF<|by decide,VF<|by decide,VF<|by decide,VF h,VF<|by decide]
  by_cases i:a=-9223372036854775808
  .have o:(a != -9223372036854775808)=false:=by simp[i]
   rw[o,Yq]at g;clear i;go_in;go_wp2_with apply(qJ _).mono;rw[g];obtain⟨x,m,l,s,j⟩:=jS<|dd 9 a M;rw[j];have k:=Z j;rintro e A⟨rfl,b⟩;obtain⟨c1,y⟩:=dN b;go_wp2_with refine VI (v:=.tuple #[.agg #[qI x,qI m,.string s],qI l]) ?_ rfl ⟨by rw[k],eJ (qA.trans<|b.mono<|by simp) _ _ _⟩;simp[Zh,results292,go_sem,c1]
  have o:(a != -9223372036854775808)=true:=by simp[i]
  rw[o,Bool.true_or]at g;go_in;go_wp2_with apply(qJ _).mono;rw[g];obtain⟨x,m,l,s,j⟩:=jS<|dd 9 a M;rw[j];have k:=Z j;rintro e A⟨rfl,b⟩;obtain⟨c1,y⟩:=dN b;go_wp2_with refine VI (v:=.tuple #[.agg #[qI x,qI m,.string s],qI l]) ?_ rfl ⟨by rw[k],eJ (qA.trans<|b.mono<|by simp) _ _ _⟩;simp[Zh,results292,go_sem,c1]
 skip
 by_cases g:M=0
 .subst g;go_in;go_wp2_with refine VI (v:=.tuple #[.agg #[qI 0,qI 0,.string ⟨#[]⟩],qI 5]) ?_ rfl ⟨rfl,qA⟩;simp[Zh,results292,go_sem]
 have k:(M==0)=false:=by simpa using g
 have j:Ze<|LU (a.tmod M) true=jW (dd 10 a M):=by unfold Ze;unfold dd;rw[VF<|by decide,VF<|by decide,VF<|by decide,VF g,VG rfl];rfl
 go_in;go_wp2_with apply(qJ _).mono;rw[j];obtain⟨x,m,l,s,h⟩:=jS<|dd 10 a M;rw[h];have i:=Z h;rintro e p⟨rfl,b⟩;obtain⟨c1,o⟩:=dN b;go_wp2_with refine VI (v:=.tuple #[.agg #[qI x,qI m,.string s],qI l]) ?_ rfl ⟨by rw[i],eJ (qA.trans<|b.mono<|by simp) _ _ _⟩;simp[Zh,results292,go_sem,c1]
def yC(b:Bool)(w:Za):Zc prog 220 #[.bool b] w<|qF (vV<|bh b) w:=by
 cases b;all_goals
  go_in;go_wp2
 .exact VI (v:=vV<|bh false) (by simp[Zh,results220,go_sem,vV,bh]) rfl ⟨rfl,qA⟩
 .exact VI (v:=vV<|bh true) (by simp[Zh,results220,go_sem,vV,bh]) rfl ⟨rfl,qA⟩
def jP(v:ai)(w:Za):Zc prog 254 #[vV v] w<|qF (.bool v.c) w:=by unfold ai.c vV;go_in;go_wp2;go_ret;exact⟨rfl,qA⟩
def R_(a:11<=n)(b:n<=16)(o:Int)(w:Za):Zc prog 293 #[qI ((n+2:Nat):Int),qI o] w<|qE (.bool<|lU n o) w:=by
 have c:n=11\/n=12\/n=13\/n=14\/n=15\/n=16:=by omega
 obtain rfl|rfl|rfl|rfl|rfl|rfl:=c;all_goals
  go_in;go_wp2;go_ret;exact⟨oA<|by simp[lU],rfl⟩
def gJ(b:qB w W)(a:w.heap.size<=k):qB w<|((W.setCell ⟨k,0,none⟩ u).setCell ⟨k,1,none⟩ z).setCell ⟨k,2,none⟩ A:=
 ((b.setCell a _).setCell a _).setCell a _
def NX(v:ai)(i:tM v.n)(w:Za):Zc prog 252 #[vV v] w<|qF (jW<|mB v) w:=by
 have b:=Z<|jP v;unfold vV at b ⊢;obtain⟨aC,n,s⟩:=v;simp only at b i ⊢;cases hm:ai.c ⟨aC,n,s⟩
 ·have j:Ze<|LU (wrap64<|-n) (n != -9223372036854775808)=jW (mB ⟨aC,n,s⟩):=by
   unfold Ze mB;rw[hm,VF<|by simp];rw[<-oC]
   congr 1
   unfold tM at i;rw[WB];simp;omega
  rw[hm]at b;go_in;go_wp2_with fail;apply qR<|b _;intro o a;obtain⟨c1,p⟩:=dN a;have g:w.heap.size+1<o.heap.size:=by have:=a.size;simp at this;omega
  have d:=Z<|((((VM w.heap.size w).alloc qZ _).alloc (by simp) _).trans<|a.mono (by simp;omega));go_wp2_with apply(qJ _).mono;rw[j];obtain⟨x,m,l,k,(h:Ze _)⟩:=jS<|mB ⟨aC,n,s⟩;rw[h];rintro e r⟨rfl,c⟩;obtain⟨c2,q⟩:=dN c;go_wp2_with fail;refine VI (v:=.tuple #[.agg #[qI x,qI m,.string k],qI l]) ?_ rfl ⟨by rw[h],gJ (Z<|d.trans<|c.mono<|by omega)<|by omega⟩;simp[Zh,results252,go_sem,c2,c1,g]
 have d:Ze<|jW (mB ⟨aC,n,s⟩)=.tuple #[.agg #[qI aC,qI n,qT s],qI 0]:=by unfold Ze mB;rw[hm,VG rfl];rfl
 rw[hm]at b;go_in;go_wp2_with fail;apply qR<|b _;intro g a;obtain⟨c1,h⟩:=dN a;have c:w.heap.size+1<g.heap.size:=by have:=a.size;simp at this;omega
 go_wp2_with fail;refine VI (v:=.tuple #[.agg #[qI aC,qI n,qT s],qI 0]) ?_ rfl ⟨by rw[d],gJ (Z<|((((VM w.heap.size w).alloc (VR _) _).alloc (by simp) _).trans<|a.mono (by simp;omega)))<|by omega⟩;simp[Zh,results252,go_sem,c1,c]
def LJ(v:ai)(w:Za):Zc prog 253 #[vV v] w<|qF (vV<|oq v) w:=by
 have b:=Z<|jP v;rw[KN v]at b ⊢;obtain⟨aC,n,s⟩:=v;simp only at b ⊢;cases hm:ai.c ⟨aC,n,s⟩
 ·have h:Ze<|vV (oq ⟨aC,n,s⟩)=vV (bh<|n==0):=by
   unfold Ze oq;rw[hm,VF<|by simp]
  rw[hm]at b;go_in;go_wp2_with fail;apply qR<|b _;intro g a;obtain⟨c1,i⟩:=dN a;have e:w.heap.size+1<g.heap.size:=by have:=a.size;simp at this;omega
  have d:=Z<|((((VM w.heap.size w).alloc qZ _).alloc (by simp) _).trans<|a.mono (by simp;omega));go_wp2_with apply qR (yC (n==0) g);intro k c;rw[KN];obtain⟨c2,j⟩:=dN c;go_wp2_with fail;refine VI (v:=vV<|bh<|n==0) ?_ rfl ⟨by rw[h],gJ (Z<|d.trans<|c.mono<|by omega)<|by omega⟩;simp[Zh,results253,go_sem,c2,c1,e,vV]
 have d:Ze<|vV (oq ⟨aC,n,s⟩)=.agg #[qI aC,qI n,qT s]:=by unfold Ze oq;rw[hm,VG rfl];rfl
 rw[hm]at b;go_in;go_wp2_with fail;apply qR<|b _;intro e a;obtain⟨c1,g⟩:=dN a;have c:w.heap.size+1<e.heap.size:=by have:=a.size;simp at this;omega
 go_wp2_with fail;refine VI (v:=.agg #[qI aC,qI n,qT s]) ?_ rfl ⟨by rw[d],gJ (Z<|((((VM w.heap.size w).alloc (VR _) _).alloc (by simp) _).trans<|a.mono (by simp;omega)))<|by omega⟩;simp[Zh,results253,go_sem,c1,c]
def Nf(a b:Int)(c:Y9)(a' b':Int)(c':Y9):Bool:=decide<|a=a'/\b=b'/\c=c'
def yW(r t:ai):Nf r.aC r.n ⟨r.s.toArray⟩ t.aC t.n ⟨t.s.toArray⟩=ai.same r t:=by unfold Nf;rw[WB,decide_eq_true_eq,ai.q];obtain⟨rk,b,c⟩:=r;obtain⟨d,tn,a⟩:=t;simp
def tA(a b:Int)(c:Y9)(d e:Int)(g:Y9)(w:Za):Sem.run prog (binOp .eql 34 (.agg #[qI a,qI b,.string c])<|.agg #[qI d,qI e,.string g]) w=.ok (.bool<|Nf a b c d e g) w:=by unfold Nf;by_cases j:a=d<;>by_cases k:b=e<;>by_cases i:c=g<;>simp[go_sem,j,k,i];intro h;apply i;rw[ByteArray.toList_eq,ByteArray.toList_eq]at h;exact ByteArray.ext<|Xt.1 h
def PZ(l r t:ai)(w:Za):Zc prog 291 #[vV l,vV r,vV t] w<|qF (vV<|fM l r t) w:=by
 have i:=tA;have c:=yW r t;by_cases a:r=t
 .have b:Ze<|vV (fM l r t)=vV r:=by rw[Ze,fM,VG<|.inl a]
  rw[ai.d a]at c;clear a;unfold vV at*;go_in;go_wp2_with fail;refine VI (v:=.agg #[qI r.aC,qI r.n,qT r.s]) ?_ rfl ⟨by rw[b],?_⟩
  .simp[Zh,results291,go_sem]
  exact((qA.alloc (by simp) _).alloc (by simp;omega) _).alloc (by simp;omega) _
 rw[ai.l a]at c;have d:=Z<|jP r;cases hm:r.c
 .have h:Ze<|vV (fM l r t)=vV l:=by rw[Ze,fM,VF<|by simp[a,hm]]
  rw[hm]at d;unfold vV at*;go_in;go_wp2_with fail;apply qR<|d _;intro j b;obtain⟨c1,k⟩:=dN b;have g:w.heap.size+3<j.heap.size:=by have:=b.size;simp at this;omega
  have e:=Z<|((((((VM w.heap.size w).alloc (VR _) _).alloc (by simp) _).alloc (by simp;omega) _).alloc (by simp;omega) _).trans<|b.mono (by simp;omega));go_wp2_with fail;refine VI (v:=.agg #[qI l.aC,qI l.n,qT l.s]) ?_ rfl ⟨by rw[h],?_⟩
  .simp[Zh,results291,go_sem,c1,g]
  exact gJ e<|by omega
 have g:Ze<|vV (fM l r t)=vV r:=by rw[Ze,fM,VG<|.inr hm]
 rw[hm]at d;unfold vV at*;go_in;go_wp2_with fail;apply qR<|d _;intro h b;obtain⟨c1,j⟩:=dN b;have e:w.heap.size+3<h.heap.size:=by have:=b.size;simp at this;omega
 go_wp2_with fail;refine VI (v:=.agg #[qI r.aC,qI r.n,qT r.s]) ?_ rfl ⟨by rw[g],?_⟩
 .simp[Zh,results291,go_sem,c1,e]
 exact gJ (Z<|((((((VM w.heap.size w).alloc qZ _).alloc (by simp) _).alloc (by simp;omega) _).alloc (by simp;omega) _).trans<|b.mono (by simp;omega)))<|by omega
structure dD:Prop where
 int:∀(x y:Int) (w:Za),Zc prog 260 #[qI x,qI y] w<|qE (qI<|Lib.compareInt x y) w
 str:∀(x y:Y9) (w:Za),Zc prog 261 #[.string x,.string y] w<|qE (qI<|Lib.compareBytes x.data.toList y.data.toList) w
def Oa(X:dD)(l r:ai)(w:Za):Zc prog 230 #[vV l,vV r] w<|qF (qI<|dz l r) w:=by
 have c:=Z<|jP l;have d:=Z<|jP r;have i:=Z X.int;cases hl:l.c
 .rw[hl]at c;cases hr:r.c
  .rw[hr]at d;by_cases e:l.aC=2
   .have t:Ze<|dz l r=Lib.compareBytes l.s r.s:=by rw[Ze,dz,hl,hr,VF<|by simp,VG e]
    have y:(l.aC==2)=true:=by simp[e]
    clear e;unfold vV at*;go_in;go_wp2_with fail;apply qR<|c _;intro p a;obtain⟨c1,u⟩:=dN a;have j:w.heap.size<p.heap.size:=by have:=a.size;simp at this;omega
    have k:w.heap.size+1<p.heap.size:=by have:=a.size;simp at this;omega
    have g:=Z<|((((VM w.heap.size w).alloc qZ _).alloc (by simp) _).trans<|a.mono (by simp;omega));go_wp2_with fail;apply qR<|d _;intro q b;obtain⟨c2,x⟩:=dN b;have n:w.heap.size<q.heap.size:=by have:=b.size;omega
    have o:w.heap.size+1<q.heap.size:=by have:=b.size;omega
    have h:=Z<|g.trans<|b.mono (by omega);go_wp2_with fail;apply qS<|(Z<|X.str ⟨l.s.toArray⟩ ⟨r.s.toArray⟩) _;go_wp2;go_ret;exact⟨fQ t.symm,h⟩
   have t:Ze<|dz l r=Lib.compareInt l.n r.n:=by rw[Ze,dz,hl,hr,VF<|by simp,VF e]
   have y:(l.aC==2)=false:=by simp[e]
   unfold vV at*;go_in;go_wp2_with fail;apply qR<|c _;intro p a;obtain⟨c1,u⟩:=dN a;have j:w.heap.size<p.heap.size:=by have:=a.size;simp at this;omega
   have k:w.heap.size+1<p.heap.size:=by have:=a.size;simp at this;omega
   have g:=Z<|((((VM w.heap.size w).alloc qZ _).alloc (by simp) _).trans<|a.mono (by simp;omega));go_wp2_with fail;apply qR<|d _;intro q b;obtain⟨c2,x⟩:=dN b;have n:w.heap.size<q.heap.size:=by have:=b.size;omega
   have o:w.heap.size+1<q.heap.size:=by have:=b.size;omega
   have h:=Z<|g.trans<|b.mono (by omega);go_wp2_with fail;apply qS<|i _ _ _;go_wp2;go_ret;exact⟨fQ t.symm,h⟩
  rw[hr]at d;have p:Ze<|dz l r=Lib.compareInt l.aC r.aC:=by rw[Ze,dz,hl,hr,VG<|by simp]
  unfold vV at*;go_in;go_wp2_with fail;apply qR<|c _;intro n a;obtain⟨c1,q⟩:=dN a;have g:w.heap.size<n.heap.size:=by have:=a.size;simp at this;omega
  have h:w.heap.size+1<n.heap.size:=by have:=a.size;simp at this;omega
  have e:=Z<|((((VM w.heap.size w).alloc qZ _).alloc (by simp) _).trans<|a.mono (by simp;omega));go_wp2_with fail;apply qR<|d _;intro o b;obtain⟨c2,t⟩:=dN b;have j:w.heap.size<o.heap.size:=by have:=b.size;omega
  have k:w.heap.size+1<o.heap.size:=by have:=b.size;omega
  go_wp2_with fail;apply qS<|i _ _ _;go_wp2;go_ret;exact⟨fQ p.symm,Z<|e.trans<|b.mono<|by omega⟩
 rw[hl]at c;have h:Ze<|dz l r=Lib.compareInt l.aC r.aC:=by rw[Ze,dz,hl,VG<|by simp]
 unfold vV at*;go_in;go_wp2_with fail;apply qR<|c _;intro g a;obtain⟨c1,j⟩:=dN a;have b:w.heap.size<g.heap.size:=by have:=a.size;simp at this;omega
 have e:w.heap.size+1<g.heap.size:=by have:=a.size;simp at this;omega
 go_wp2_with apply qS (i _ _ _);go_wp2;go_ret;exact⟨fQ h.symm,Z<|((((VM w.heap.size w).alloc qZ _).alloc (by simp) _).trans<|a.mono (by simp;omega))⟩
def KJ(C:6<=n)(x:n<=16){l r:ai}(p:l.c=true\/r.c=true):Zc prog 255 #[qI ((n+2:Nat):Int),vV l,vV r] w<|qF (jW<|fH n l r) w:=by
 have o:Ze<|jW (fH n l r)=.tuple #[.agg #[qI 0,qI 0,.string ⟨#[]⟩],qI 0]:=by unfold Ze fH;rw[VF<|by omega,VG (by obtain h|h:=p<;>simp[h])];rfl
 have g:=Z<|jP l;have k:=Z<|jP r;have t:(((n+2:Nat):Int)==19)=false:=by simp;omega
 have u:(((n+2:Nat):Int)==20)=false:=by simp;omega
 cases hl:l.c
 .have y:r.c=true:=by obtain h|h:=p;rw[hl]at h;cases h;exact h
  rw[hl]at g;rw[y]at k;unfold vV at*;go_in;go_wp2_with fail;apply qR<|g _;intro j a;obtain⟨c1,A⟩:=dN a;have c:w.heap.size<j.heap.size:=by have:=a.size;simp at this;omega
  have d:w.heap.size+1<j.heap.size:=by have:=a.size;simp at this;omega
  have e:w.heap.size+1+1<j.heap.size:=by have:=a.size;simp at this;omega
  have i:=Z<|(((((VM w.heap.size w).alloc qZ _).alloc (by simp) _).alloc (by simp;omega) _).trans<|a.mono (by simp;omega));go_wp2_with apply qR (k _);intro z b;obtain⟨c2,B⟩:=dN b;have q:w.heap.size+1+1<z.heap.size:=by have:=b.size;omega
  go_wp2_with fail;refine VI (v:=.tuple #[.agg #[qI 0,qI 0,.string ⟨#[]⟩],qI 0]) ?_ rfl ⟨by rw[o],gJ (Z<|i.trans<|b.mono<|by omega)<|by omega⟩;simp[Zh,results255,go_sem,c2,c1,c,d,e]
 rw[hl]at g;unfold vV at*;go_in;go_wp2_with fail;apply qR<|g _;intro e a;obtain⟨c1,h⟩:=dN a;have b:w.heap.size<e.heap.size:=by have:=a.size;simp at this;omega
 have c:w.heap.size+1<e.heap.size:=by have:=a.size;simp at this;omega
 have d:w.heap.size+1+1<e.heap.size:=by have:=a.size;simp at this;omega
 go_wp2_with fail;refine VI (v:=.tuple #[.agg #[qI 0,qI 0,.string ⟨#[]⟩],qI 0]) ?_ rfl ⟨by rw[o],gJ (Z<|(((((VM w.heap.size w).alloc (VR _) _).alloc (by simp) _).alloc (by simp;omega) _).trans<|a.mono (by simp;omega)))<|by omega⟩;simp[Zh,results255,go_sem,c1,b,c,d]
def SW(F:6<=n)(d:n<=10){l r:ai}(z:l.c=false)(A:r.c=false)(G:tM l.n)(H:tM r.n):Zc prog 255 #[qI ((n+2:Nat):Int),vV l,vV r] w λe M=>e=.returned (jW<|fH n l r)/\qB w M:=by
 have C:Ze<|fH n l r=dd n l.n r.n:=by unfold Ze fH;rw[VF<|by omega,VF<|by simp[z,A],VG d]
 have x:=Z<|jP l;have y:=Z<|jP r;have u:=Z<|Qo F d G H;rw[C.o];generalize dd n l.n r.n=o at*;obtain⟨J,L,K,os,I⟩:=jS o;rw[I]at u ⊢;have D:(((n+2:Nat):Int)==19)=false:=by simp;omega
 have E:(((n+2:Nat):Int)==20)=false:=by simp;omega
 rw[z]at x;rw[A]at y;unfold vV at*;go_in;go_wp2_with apply(U x _).mono;rintro e q⟨rfl,a⟩;obtain⟨c1,O⟩:=dN a;have g:w.heap.size<q.heap.size:=by have:=a.size;simp at this;omega
 have h:w.heap.size+1<q.heap.size:=by have:=a.size;simp at this;omega
 have i:w.heap.size+1+1<q.heap.size:=by have:=a.size;simp at this;omega
 go_wp2_with apply(U y _).mono;rintro e t⟨rfl,b⟩;obtain⟨c2,P⟩:=dN b;have j:w.heap.size<t.heap.size:=by have:=b.size;omega
 have k:w.heap.size+1<t.heap.size:=by have:=b.size;omega
 have p:w.heap.size+1+1<t.heap.size:=by have:=b.size;omega
 go_wp2_with fail;all_goals first
  | (apply(U u _).mono
     rintro e N⟨rfl,c⟩;obtain⟨c3,Q⟩:=dN c;have B:w.heap.size+1+1<N.heap.size:=by have:=c.size;omega
     go_wp2_with fail;refine VI (v:=.tuple #[.agg #[qI J,qI L,.string os],qI K]) ?_ rfl ⟨rfl,gJ (Z<|(Z<|(Z<|(((((VM w.heap.size w).alloc (VR _) _).alloc (by simp) _).alloc (by simp;omega) _).trans<|a.mono (by simp;omega))).o.trans<|b.mono<|by omega).o.trans<|c.mono<|by omega).o<|by omega⟩
     simp[Zh,results255,go_sem,c3,c2,c1,g,h,i,j,k,p])
  |(exfalso;simp at*;omega)
def SV(X:dD)(z:11<=n)(A:n<=16){l r:ai}(J:l.c=false)(K:r.c=false):Zc prog 255 #[qI ((n+2:Nat):Int),vV l,vV r] w<|qF (jW<|fH n l r) w:=by
 have I:Ze<|jW (fH n l r)=.tuple #[vV<|bh<|lU n<|dz l r,qI 0]:=by unfold Ze fH;rw[VF<|by omega,VF<|by simp[J,K],VF<|by omega];rfl
 have F:=Z<|jP l;have G:=Z<|jP r;have N:=Z<|Oa X l r;have M:=Z<|R_ z A<|dz l r;have H:=Z<|yC<|lU n<|dz l r;generalize lU n (dz l r)=O at*;generalize dz l r=oo at*;have b:∃a m:Int,∃s:Y9,vV (bh O)=.agg #[qI a,qI m,.string s]:=⟨_,_,_,rfl⟩;obtain⟨U,V,B,b⟩:=b;rw[b]at H I;clear b;have S:(((n+2:Nat):Int)==19)=false:=by simp;omega
 have T:(((n+2:Nat):Int)==20)=false:=by simp;omega
 have g8:(((n+2:Nat):Int)==8)=false:=by simp;omega
 have g9:(((n+2:Nat):Int)==9)=false:=by simp;omega
 have P:(((n+2:Nat):Int)==10)=false:=by simp;omega
 have Q:(((n+2:Nat):Int)==11)=false:=by simp;omega
 have R:(((n+2:Nat):Int)==12)=false:=by simp;omega
 rw[J]at F;rw[K]at G;unfold vV at*;go_in;go_wp2_with fail;apply qR<|F _;intro C b;obtain⟨c1,Y⟩:=dN b;have g:w.heap.size<C.heap.size:=by have:=b.size;simp at this;omega
 have h:w.heap.size+1<C.heap.size:=by have:=b.size;simp at this;omega
 have i:w.heap.size+1+1<C.heap.size:=by have:=b.size;simp at this;omega
 have u:=Z<|(((((VM w.heap.size w).alloc qZ _).alloc (by simp) _).alloc (by simp;omega) _).trans<|b.mono (by simp;omega));go_wp2_with apply qR (G _);intro D c;obtain⟨c2,f2⟩:=dN c;have j:w.heap.size<D.heap.size:=by have:=c.size;omega
 have k:w.heap.size+1<D.heap.size:=by have:=c.size;omega
 have o:w.heap.size+1+1<D.heap.size:=by have:=c.size;omega
 have x:=Z<|u.trans<|c.mono (by omega);go_wp2_with apply qR (N _);intro E d;obtain⟨c3,f3⟩:=dN d;have p:w.heap.size<E.heap.size:=by have:=d.size;omega
 have q:w.heap.size+1<E.heap.size:=by have:=d.size;omega
 have t:w.heap.size+1+1<E.heap.size:=by have:=d.size;omega
 have y:=Z<|x.trans<|d.mono (by omega);go_wp2_with apply qS (M _);go_wp2_with apply qR (H _);intro W e;obtain⟨c5,f5⟩:=dN e;have L:w.heap.size+1+1<W.heap.size:=by have:=e.size;omega
 go_wp2_with refine VI (v:=.tuple #[.agg #[qI U,qI V,.string B],qI 0]) ?_ rfl ⟨by rw[I],gJ (Z<|y.trans<|e.mono<|by omega)<|by omega⟩;simp[Zh,results255,go_sem,c5,c3,c2,c1,g,h,i,j,k,o,p,q,t]
def VC{x y z:Obj}(a:Below ((((w.alloc x).alloc y).alloc z).drew).heap.size ((((w.alloc x).alloc y).alloc z).drew) W):w.heap.size<W.heap.size/\w.heap.size+1<W.heap.size/\w.heap.size+1+1<W.heap.size:=by have h:=a.size;simp[Za.drew]at h;omega
def Vp(a:qB W x)(b:w.heap.size<W.heap.size)(c:w.heap.size+1<W.heap.size)(d:w.heap.size+1+1<W.heap.size):w.heap.size<x.heap.size/\w.heap.size+1<x.heap.size/\w.heap.size+1+1<x.heap.size:=by have h:=a.size;omega
def IQ{g:Za}{x y z:Obj}(d:Below ((((w.alloc x).alloc y).alloc z).drew).heap.size ((((w.alloc x).alloc y).alloc z).drew) W)(e:qB W g){C:Y_}{t:Zf}(o:z=.cells C t)(a b c:Zb)(k:C.size=3):
 (((g.setCell ⟨w.heap.size+1+1,0,none⟩ a).setCell ⟨w.heap.size+1+1,1,none⟩ b).setCell ⟨w.heap.size+1+1,2,none⟩ c).heap[w.heap.size+1+1]?=some (.cells #[a,b,c] t)/\qB w (((g.setCell ⟨w.heap.size+1+1,0,none⟩ a).setCell ⟨w.heap.size+1+1,1,none⟩ b).setCell ⟨w.heap.size+1+1,2,none⟩ c):=by
 subst o;have i:((((w.alloc x).alloc y).alloc<|.cells C t).drew).heap[w.heap.size+1+1]?=some (.cells C t):=iL ((w.alloc x).alloc y) (.cells C t) (by simp);have n:qB w<|(((w.alloc x).alloc y).alloc<|.cells C t).drew:=((((VM w.heap.size w).alloc qZ _).alloc (by simp) _).alloc (by simp;omega) _).drew;have j:=bB d (lB i) i;have h:=d.size;simp[Za.drew]at h;have hB:qB w g:=(n.trans<|d.mono (by simp[Za.drew];omega)).trans<|e.mono (by omega);refine⟨?_,gJ hB<|by omega⟩;rw[bS (bS (bS (bB e (lB j) j) 0 a) 1 b) 2 c];obtain⟨l⟩:=C
 match l,k with
 |[p,q,r],_=>rfl
def Hp(b:Bool)(h:(n=17/\b=false)\/(n=18/\b=true)){l r:ai}:Zc prog 255 #[qI ((n+2:Nat):Int),vV l,vV r] w<|qF (jW<|fH n l r) w:=by
 have t:=Z<|yC b;have k:=Z<|PZ l r<|bh b;have u:Ze<|jW (fH n l r)=.tuple #[vV<|fM l r<|bh b,qI 0]:=by unfold Ze fH;obtain⟨rfl,rfl⟩|⟨rfl,rfl⟩:=h<;>rfl
 generalize fM l r (bh b)=B at*;have c:∃a m:Int,∃s:Y9,vV B=.agg #[qI a,qI m,.string s]:=⟨_,_,_,rfl⟩;have d:∃a m:Int,∃s:Y9,vV (bh b)=.agg #[qI a,qI m,.string s]:=⟨_,_,_,rfl⟩;obtain⟨o,p,q,c⟩:=c;obtain⟨J,K,G,d⟩:=d;rw[c]at k u;rw[d]at k t;clear c d;obtain⟨rfl,rfl⟩|⟨rfl,rfl⟩:=h;all_goals
  unfold vV at*;go_in;go_upto_region 4 with fail
  go_cut [6,7] (λE F A=>E=qP (w.heap.size+1+1)/\F=qI 0/\A.heap[w.heap.size+1+1]?=some (.cells #[qI o,qI p,.string q] 34)/\qB w A)
  case first=>
   go_region_with (first
    |(go_at_call 220;apply(t _).mono;rintro e L⟨rfl,c⟩;obtain⟨c1,H⟩:=dN c;obtain⟨g,i,j⟩:=VC c)
    |(go_at_call 291;apply(k _).mono;rintro e M⟨rfl,d⟩;obtain⟨c2,I⟩:=dN d;obtain⟨x,y,z⟩:=Vp d g i j))
   all_goals
    go_wp2;go_meet;obtain⟨C,D⟩:=IQ c d rfl (qI o) (qI p) (.string q) rfl;exact⟨rfl,rfl,C,D⟩
  case rest=>
   obtain⟨rfl,rfl,c,d⟩:=hcut;have g:=bC c 0;have i:=bC c 1;have j:=bC c 2;simp at g i j;go_wp2_with refine VI (v:=.tuple #[.agg #[qI o,qI p,.string q],qI 0]) ?_ rfl ⟨by rw[u],d⟩;simp[Zh,results255,go_sem,g,i,j]
