import Derived.Test.YtojdpjpldokjmaaGreatDoorC02
import Derived.Test.YtojdpjpldokjmaaGreatDoorC03
set_option maxHeartbeats 0
set_option maxRecDepth 100000
set_option linter.all false
namespace Go.Proofs.YtojdpjpldokjmaaGreatDoor
open Go.Deep Go.RowKit Tryz
open Go renaming World->Za,Value->Zb,Calls->Zc,TypeId->Zf,Ending->Zg,results->Zh,callFunc->Zi,maxLen->Zj
open RowKit renaming Hid->Ze
variable{W w x:World}{i j k n:Nat}{D E:YV}{L b:Bool}{R:aA}{a:Int}{u z:Value}
def qj(p:UInt8->Bool):∀l:YX,l.dropWhile p <:+ l
 |[]=>X4 _
 |c::r=>by
  rw[XM];split
  .exact(qj p r).trans (W5 c r)
  exact X4 _
def mw:∀(a l:YX),(bj a l).2 <:+ l
 |_,[]=>by simp[bj]
 |a,[c]=>by unfold bj;split<;>exact List.nil_suffix
 |a,c::d::r=>by
  unfold bj;split
  .split
   .exact(mw _ r).trans ((W5 d r).trans<|W5 c _)
   exact W5 c _
  exact(mw _<|d::r).trans (W5 c _)
def xK:∀(l:YX),(dq l).2 <:+ l
 |[]=>X4 _
 |[c]=>List.nil_suffix
 |c::d::r=>by
  simp only[dq];split
  .exact W5 c _
  exact(W5 d r).trans (W5 c _)
def wT:∀(l:YX),(cK l).2 <:+ l
 |[]=>X4 _
 |c::r=>by
  simp only[cK];split
  .exact qj _ _
  split
  .exact qj _ _
  split
  .exact(mw _ r).trans (W5 c r)
  exact xK _
def zM(l:YX):l.drop (l.length-(cK l).2.length)=(cK l).2:=by
 obtain⟨pre,h⟩:=wT l;have a:l.length-(cK l).2.length=pre.length:=by have:=Wd List.length h;simp at this;omega
 rw[a];generalize (cK l).2=z at h;subst h;simp
def Ci(c:UInt8)(r:YX):(cK<|c::r).1.k≠0:=by
 have e:dF.k=99:=rfl;simp only[cK];split
 .obtain h|h|h:=xU (List.takeWhile dV<|c::r)
  .simp only;omega
  .simp only;omega
  simp only;rw[h];decide
 split
 .obtain h|h:=zd (List.takeWhile aQ<|c::r)
  .simp only;omega
  simp only;rw[h];decide
 split
 .obtain h|h:=mR [] r
  .omega
  rw[h];decide
 cases r with
 |nil=>
  have:=nF c.toNat;unfold mf at this;simp only[dq];omega
 |cons d r=>
  have a:=nF c.toNat;have b:=xR c.toNat d.toNat;unfold mf at a b;simp only[dq];split
  .simp only;omega
  simp only;omega
def wL(p:UInt8->Bool):∀l:YX,(l.dropWhile p).dropWhile p=l.dropWhile p
 |[]=>rfl
 |c::r=>by
  rw[XM];split
  .exact wL p r
  rename_i h;rw[XM,VF h]
def BX(l:YX):de (l.dropWhile bW)=de l:=by
 have h:aO (l.dropWhile bW)=aO l:=by unfold aO;rw[wL]
 rw[gw,gw l,h]
def tw(z:ae×YX)(l:YX):∃(a b:Int)(c:Y9)(n:Int),fZ z l=.tuple #[.agg #[qI a,qI b,.string c],qI n]:=by
 unfold fZ;split
 .exact⟨_,_,_,_,rfl⟩
 exact⟨_,_,_,_,rfl⟩
def P4(s:Y9)(h:0<s.size):s.data.toList=s[0]::aq s 1:=by rw[<-qm,cJ s 0 h]
def Ll(X:lL)(s:Y9)(i:s.size<=1048576)(j:0<s.size)(g:iC w)(l:lJ w):
 Zc prog 94 #[.string s] w (qF (fZ (cK s.data.toList) s.data.toList) w):=by
 have d:=Z<|P4 s j;cases hl:fL s[0]
 .cases hd:aQ s[0]
  .by_cases h:s[0].toNat=39
   ·have r:Ze<|cK s.data.toList=bj [] (aq s 1):=by
     rw[Ze,d];simp only[cK];rw[VF<|by simp[hl],VF<|by simp[hd],VG h]
    have q:=Z<|Jk X s;have t:(((s[0].toNat:Nat):Int)==39)=true:=by simp;omega
    clear h d X g l;rw[r];go_in;go_wp2_with (first|(go_at_call 143;apply lV.mono;rintro e u⟨rfl,rfl⟩)|(go_at_call 145;apply(lA _ _).mono;rintro e u⟨rfl,rfl⟩));apply(q _ i j).mono;obtain⟨a,b,c,n,o⟩:=tw (bj []<|aq s 1) s.data.toList;rw[o];have p:=Z o;rintro e y⟨rfl,k⟩;obtain⟨c1,x⟩:=dN k;go_wp2_with refine VI (v:=.tuple #[.agg #[qI a,qI b,.string c],qI n]) ?_ rfl ⟨by rw[p],?_⟩
    .simp[Zh,results94,go_sem,c1]
    exact eJ (qA.trans<|k.mono<|by simp) _ _ _
   have t:Ze<|cK s.data.toList=dq (s[0]::aq s 1):=by rw[Ze,d];simp only[cK];rw[VF<|by simp[hl],VF<|by simp[hd],VF h]
   have r:Ze (∀w,iC w->Zc prog 148 #[.string s] w (qF (fZ (dq<|s[0]::aq s 1) s.data.toList) w)):=by intro w x;have:=OG X s[0] (aq s 1) x;rw[<-d]at this ⊢;exact this
   have u:(((s[0].toNat:Nat):Int)==39)=false:=by simp;omega
   have q:=Z g;rw[t];go_in;go_wp2_with (first|(go_at_call 143;apply lV.mono;rintro e y⟨rfl,rfl⟩)|(go_at_call 145;apply(lA _ _).mono;rintro e y⟨rfl,rfl⟩));apply(r _<|q.below qA).mono;obtain⟨a,b,c,n,o⟩:=tw (dq<|s[0]::aq s 1) s.data.toList;rw[o];have p:=Z o;rintro e A⟨rfl,k⟩;obtain⟨c1,z⟩:=dN k;go_wp2_with refine VI (v:=.tuple #[.agg #[qI a,qI b,.string c],qI n]) ?_ rfl ⟨by rw[p],?_⟩
   .simp[Zh,results94,go_sem,c1]
   exact eJ (qA.trans<|k.mono<|by simp) _ _ _
  have t:Ze<|cK s.data.toList=(ed<|s.data.toList.takeWhile aQ,s.data.toList.dropWhile aQ):=by rw[Ze,d];simp only[cK];rw[VF<|by simp[hl],VG hd]
  have r:=Z<|I9 X s;have p:=Z l;have q:Ze<|s.data.toList.takeWhile aQ≠[]:=by rw[Ze,d,W9 hd];simp
  rw[t];go_in;go_wp2_with (first|(go_at_call 143;apply lV.mono;rintro e u⟨rfl,rfl⟩)|(go_at_call 145;apply(lA _ _).mono;rintro e u⟨rfl,rfl⟩));apply(r _ i q<|p.alloc _).mono;obtain⟨a,b,c,n,k⟩:=tw (ed<|s.data.toList.takeWhile aQ,s.data.toList.dropWhile aQ) s.data.toList;rw[k];have o:=Z k;rintro e y⟨rfl,h⟩;obtain⟨c1,x⟩:=dN h;go_wp2_with refine VI (v:=.tuple #[.agg #[qI a,qI b,.string c],qI n]) ?_ rfl ⟨by rw[o],?_⟩
  .simp[Zh,results94,go_sem,c1]
  exact eJ (qA.trans<|h.mono<|by simp) _ _ _
 ·have q:Ze<|cK s.data.toList=(da<|s.data.toList.takeWhile dV,s.data.toList.dropWhile dV):=by
   rw[Ze,d];simp only[cK];rw[VG hl]
  have p:=Z g;rw[q];go_in;go_wp2_with (first|(go_at_call 143;apply lV.mono;rintro e r⟨rfl,rfl⟩)|(go_at_call 145;apply(lA _ _).mono;rintro e r⟨rfl,rfl⟩));apply((Z<|Mm X s) _ i<|p.below qA).mono;obtain⟨a,b,c,n,k⟩:=tw (da<|s.data.toList.takeWhile dV,s.data.toList.dropWhile dV) s.data.toList;rw[k];have o:=Z k;rintro e u⟨rfl,h⟩;obtain⟨c1,t⟩:=dN h;go_wp2_with refine VI (v:=.tuple #[.agg #[qI a,qI b,.string c],qI n]) ?_ rfl ⟨by rw[o],?_⟩
  .simp[Zh,results94,go_sem,c1]
  exact eJ (qA.trans<|h.mono<|by simp) _ _ _
def G2(X:lL)(s:Y9)(w:Za):Zc prog 93 #[.string s] w<|qF (qT<|s.data.toList.dropWhile bW) w:=by go_in;go_wp2_with apply qR ((Z<|X.trim s) _);intro b a;go_wp2;go_ret;exact⟨rfl,a⟩
def jw(ts:YV):Y0:=ts.flatMap λt=>[qI t.k,qI t.n,qT t.s]
def CI(a:YV)(t:ae):jw (a++[t])=jw a++[qI t.k,qI t.n,qT t.s]:=by unfold jw;simp
def Lo:(prog.info? 180).map (λi=>(i.zero,i.size,i.bytes))=some (some<|.agg #[qI 0,qI 0,.string {data:=#[]}],3,32):=by kernel_rfl
def Mx(w:Za)(l:YX)(e:Zg)(w':Za):Prop:=
 qB w w'/\((pB (de l)/\∃a n c,e=.returned (.tuple #[.slice a n c,.bool true])/\w'.ownsRow w.heap.size 180 3 (.slice a n c) (de l).length (jw<|de l))\/(¬pB (de l)/\e=.returned (.tuple #[qN,.bool false])))
def lenOf:Zb->Nat
 |.string b=>b.size
 |_=>0
def Mr(w wr:Za)(L:YX)(v:Zb)(acc:YV)(l:YX):Prop:=
 qB w wr/\wr.ownsRow w.heap.size 180 3 v acc.length (jw acc)/\l.length<=L.length/\acc.length+l.length<=L.length/\pB acc/\de L=acc++de l/\l.dropWhile bW=l
def NZ(w:Za){o:Obj}(C:Y0)(t:Zf):∀j u,C[j]?=some u->((w.alloc o).alloc<|.cells C.toArray t).cell? ((⟨w.heap.size+1,0,none⟩:Addr).add j)=some u:=by have h:=cW (w.alloc o) C t;rw[show(w.alloc o).heap.size=w.heap.size+1 by simp]at h;exact h
def aB{e:Zf}{v:Zb}{d:Y0}(l:qB w W)(h:w.ownsRow k e i v n d):W.ownsRow k e i v n d:=by
 obtain⟨j,b⟩:=h;refine⟨j,?_⟩;obtain b|⟨g,cap,a,p,o,c,r⟩:=b
 .exact .inl b
 exact .inr ⟨g,cap,a,p,o,bB l (lB c) c,r⟩
def PE(X:lL)(s:Y9)(hs:s.size<=1048576)(hg:iC w)(he:lJ w):
 Zc prog 61 #[.string s] w (Mx w s.data.toList):=by
 obtain⟨i0,hi,U,V,W⟩:=V5 Lo;have L:=Z X;have HG:=Z hg;have HE:=Z he;go_in;go_wp2_with apply qR (G2 L s w);intro w1 p;have HC:Ze<|Mr w w1 s.data.toList qN []<|s.data.toList.dropWhile bW:=
  ⟨p,VP _ _ _ _,lv _ _,by have:=lv bW s.data.toList;simpa using this,λt T=>(by cases T),by rw[BX];rfl,wL _ _⟩
 generalize s.data.toList.dropWhile bW=l0 at*;go_wp2
 go_loopw [4,5] (λv r wr=>∃(b:YV) (l:YX),r=qT l/\Ze (Mr w wr s.data.toList v b l)) (λ_ r _=>lenOf r)
 exact⟨[],l0,rfl,HC⟩
 case round=>
  obtain⟨b,l,rfl,HI⟩:=hrel;cases l with
  |nil=>
   obtain⟨j,c,n,o,k,a,q⟩:=HI.o;rw[show de []=[]from rfl,WQ]at a;obtain⟨d,h,g,rfl⟩:=aF c;have i:Ze<|Mx w s.data.toList (.returned<|.tuple #[.slice d h g,.bool true]) wr:=
    ⟨j,.inl ⟨by rw[a];exact k,d,h,g,rfl,by rw[a];exact c⟩⟩
   go_wp2;go_ret2;exact i
  |cons c r=>
   obtain⟨A,h2,h3,P,h5,h6,h7⟩:=HI.o;have Q:(c::r).length<=1048576:=by
    have:s.data.toList.length<=1048576:=by simpa using hs
    omega
   have x:=Z<|Ll L ⟨(c::r).toArray⟩ (by simpa[ByteArray.size]using Q) (by simp[ByteArray.size]) (HG.below A)<|HE.below A;have q:aO (c::r)=cK (c::r):=by rw[aO,h7]
   have hk:=nM<|c::r;have o:=sC (c::r) (by simp);have g:=zM<|c::r;have n:=gw<|c::r;have E:=Ci c r;rw[q]at hk n;obtain⟨va,vn,vc,rfl⟩:=aF h2
   change Ze (Zc prog 94 #[qT<|c::r] wr<|qF (fZ (cK<|c::r)<|c::r) wr)at x
   generalize hz:cK (c::r)=z at*;obtain⟨a,rest⟩:=z;simp only at hk o g n E;have H6:=Z h6;by_cases d:a.k=99
   ·have u:Ze<|fZ (a,rest) (c::r)=.tuple #[.agg #[qI 0,qI 0,.string ⟨#[]⟩],qI 0]:=lu d;rw[u]at x;have k:Ze (∀h,qB wr h->Mx w s.data.toList (.returned<|.tuple #[qN,.bool false]) h):=λh i=>by
     refine⟨A.trans<|i.mono A.size,.inr ⟨?_,rfl⟩⟩;intro j;rw[H6,n,VF<|by omega,VG d]at j;exact j dF (by simp) rfl
    go_wp2_with apply qR x;intro h p;have HB:=Z p;go_wp2;go_ret2;exact(k _<|HB.alloc HB.size _)
   have hn:0<(c::r).length-rest.length:=by omega
   have S:(c::r).length-rest.length<=(c::r).length:=by omega
   have HV:Ze<|fZ (a,rest) (c::r)=.tuple #[.agg #[qI a.k,qI a.n,qT a.s],qI (((c::r).length-rest.length:Nat):Int)]:=ml d;rw[HV]at x;have C:(⟨(c::r).toArray⟩:Y9).extract ((c::r).length-rest.length) (c::r).length=⟨rest.toArray⟩:=by apply ByteArray.ext;apply Xt.1;rw[nY];show List.drop _ (List.take (c::r).length<|c::r)=rest;rw[Wj,g]
   have M:=Z C;have K:Ze<|de (c::r)=a::de rest:=by unfold Ze;rw[n,VF E,VF d]
   have G:=Z A;have H:=Z P;have H5:=Z h5;have R:rest.length<(c::r).length:=o;generalize hN:(c::r).length-rest.length=N at*;have ab:N<=r.length+1:=S;have O:Ze<|(⟨(c::r).toArray⟩:Y9).extract N (r.length+1)=⟨rest.toArray⟩:=M;have aa:rest.length<=r.length:=by simp at R;omega
   go_wp2_with apply qR x;intro F p;have HB:=Z p;have j:F.ownsRow w.heap.size 180 3 (.slice va vn vc) b.length<|jw b:=aB p h2;have Y:w.heap.size<=F.heap.size:=by have:=G.size;have:=p.size;omega
   go_wp2_with (at_builtin;refine VS _ rfl (.tmp 21) (.tmp 23) 121 rfl w.heap.size 180 i0 _ 3 32 underlying121 hi U V W rfl (by decide) _ _ _ rfl ((j.alloc _).alloc _) ⟨F.heap.size+1,0,none⟩ 1 1 [qI a.k,qI a.n,qT a.s] rfl rfl ?c1 ?c2 ?c3 ?c4 ?c5 ?_)
   case c1=>exact NZ F [qI a.k,qI a.n,qT a.s] 180
   case c2=>intro u h;simp at h;obtain rfl|rfl|rfl:=h<;>rfl
   case c3=>have:=H.o;unfold Zj;simp at this;omega
   case c4=>have:=H.o;simp at this;omega
   case c5=>simp;omega
   intro v' w3 (J:Ze _) hg3 hnil;have D:qB w w3:=by have h:∀k,Zb.ownBlock (.slice va vn vc)=some k->w.heap.size<=k:=λk e=>(j.lt k e).1;exact(((G.trans<|HB.mono G.size).alloc Y<|.cells #[qI a.k,qI a.n,qT a.s] 180).alloc (by simp;omega)<|.cells #[qI a.k,qI a.n,qT a.s] 180).trans ⟨hg3.os,hg3.tape,hg3.output,hg3.size,λi hi=>hg3.block i (by simp;omega) (λe=>by have:=h _ e.symm;omega)⟩
   have y:=Z D;go_wp2_with apply(G2 L _ w3).mono;rw[O];rintro e w4⟨rfl,B⟩;have I:Ze<|Mr w w4 s.data.toList v' (b++[a])<|rest.dropWhile bW:=by
    have i:=lv bW rest;have P:=H.o;simp at P;refine⟨y.trans<|B.mono y.size,?_,?_,?_,?_,?_,wL _ _⟩
    .rw[CI,VH];exact aB B J
    .simp;omega
    .simp;omega
    .intro t T;obtain h|h:=V1.1 T
     .exact H5 t h
     simp at h;subst h;exact d
    rw[H6,K,BX];simp
   have hm:(rest.dropWhile bW).length<(c::r).length:=by have:=lv bW rest;omega
   have HM:=Z hm;go_wp2;go_roundw;exact⟨_,_,rfl,I⟩;exact HM
def rj(w:Za)(rb:Nat)(v:Zb)(T:YV):Prop:=
 T.length<=1048576/\((v=qN/\T=[])\/∃g cap cur,v=qL g T.length cap/\g<rb/\w.heap[g]?=some (.cells cur 180)/\cur.toList.take (T.length*3)=jw T)
def rj.d{v:Zb}{T:YV}(h:rj w n v T)(j:aH n w W):rj W n v T:=by
 obtain⟨b,h⟩:=h;refine⟨b,?_⟩;obtain h|⟨g,cap,a,c,d,e,i⟩:=h
 .exact .inl h
 exact .inr ⟨g,cap,a,c,d,j.q (by omega) e,i⟩
def zB:∀(T:YV)(i:Nat)(h:i<T.length),(jw T)[3*i]?=some (qI T[i].k)/\(jw T)[3*i+1]?=some (qI T[i].n)/\(jw T)[3*i+2]?=some (.string ⟨T[i].s.toArray⟩)
 |[],i,h=>absurd h<|by simp
 |t::T,0,_=>⟨rfl,rfl,rfl⟩
 |t::T,i+1,h=>by
  have a:=zB T i (by simpa using h);have e:jw (t::T)=[qI t.k,qI t.n,qT t.s]++jw T:=rfl;rw[e];refine⟨?_,?_,?_⟩
  .rw[VW (by simp;omega)];simpa[show 3*(i+1)-3=3*i by omega]using a.1
  .rw[VW (by simp;omega)];simpa[show 3*(i+1)+1-3=3*i+1 by omega]using a.2.1
  rw[VW (by simp;omega)];simpa[show 3*(i+1)+2-3=3*i+2 by omega]using a.2.2
def rj.cells{v:Zb}{T:YV}(h:rj w n v T)(d:i<T.length):∃g cap,v=qL g T.length cap/\g<n/\g<w.heap.size/\w.cell? ⟨g,3*i,none⟩=some (qI T[i].k)/\w.cell? ⟨g,3*i+1,none⟩=some (qI T[i].n)/\w.cell? ⟨g,3*i+2,none⟩=some (.string ⟨T[i].s.toArray⟩):=by
 obtain⟨_,h⟩|⟨g,cap,b,e,k,c,l⟩:=h.2
 .subst h;simp at d
 have a:=zB T i d;rw[<-l]at a;have q:∀j,j<T.length*3->w.cell? ⟨g,j,none⟩=(b.toList.take<|T.length*3)[j]?:=λj o=>by rw[bC c,V6,VG o];simp
 refine⟨g,cap,e,k,lB c,?_,?_,?_⟩
 .rw[q _<|by omega];exact a.1
 .rw[q _<|by omega];exact a.2.1
 rw[q _<|by omega];exact a.2.2
def RC(w:Za)(rb:Nat)(T ts:YV)(d:Nat)(b:Bool):Prop:=
 ∃(v:Zb) (p:Nat),w.heap[rb]?=some (.cells #[v,qI p,qI d,.bool b] 126)/\p<=T.length/\T.drop p=ts/\(b=true->ts=[])/\rj w rb v T
def RC.lt{T:YV}(h:RC w n T D k b):n<w.heap.size:=by obtain⟨v,p,a,_⟩:=h;exact lB a
def rj.slice{v:Zb}{T:YV}(h:rj w n v T):∃a c,v=.slice a T.length c:=by
 obtain⟨rfl,rfl⟩|⟨g,cap,b,d,_⟩:=h.2
 .exact⟨none,0,rfl⟩
 exact⟨_,_,d⟩
def A0{T:YV}(b:Bool)(j:RC w n T D k b):
 Zc prog 100 #[qP n] w λe h=>e=.returned (.tuple #[])/\RC h n T [] k true/\aH n w h:=by
 obtain⟨v,p,(d:Ze _),o,q,r,g⟩:=j;obtain⟨a,c,rfl⟩:=g.slice;have t:=lB d;have c0:=bC d;have l:=bF d;have i:=Z g;go_in;go_wp2_with fail;refine WL (v:=.tuple #[]) (by simp[Zh,results100,go_sem]) rfl ?_;refine⟨rfl,⟨.slice a T.length c,T.length,?_,qZ,by simp,λ_=>rfl,i.d<|((aH.refl _ _).set _ _).set _ _⟩,((aH.refl _ _).set _ _).set _ _⟩;simpa using bS (bS d 3<|.bool true) 1 (qI T.length)
def D8(T:YV)(h:n<T.length):af (T.drop n)=T[n]/\(T.drop n).tail=T.drop (n+1):=by rw[VJ h];exact⟨rfl,rfl⟩
def FI{T:YV}(h:¬n<T.length):T.drop n=[]:=Wo<|by omega
def RC.drew{T:YV}(h:RC w n T D k b):RC w.drew n T D k b:=h
def RC.d{T:YV}(h:RC w n T D k b)(j:aH n w W)(i:W.heap[n]?=w.heap[n]?):RC W n T D k b:=by obtain⟨v,p,a,c,d,e,g⟩:=h;exact⟨v,p,i.trans a,c,d,e,g.d j⟩
def RC.alloc{T:YV}(h:RC w n T D k b)(o:Obj):RC (w.alloc o) n T D k b:=
 h.d ((aH.refl _ _).alloc _) (V2 _ _ _ h.lt)
def uG{T:YV}(b:Bool)(o:RC w n T D k b):
 Zc prog 64 #[qP n] w λe r=>e=.returned (qI (af D).k)/\RC r n T D k b/\aH n w r:=by
 have j:=Z o;obtain⟨v,p,h,A,l,B,i⟩:=o;have q:=i.1;have E:=lB h;have c0:=bC h;have x:=bF h;by_cases d:p<T.length
 .obtain⟨g,cap,rfl,u,C,t,y,z⟩:=i.cells d;have c:Ze<|af D=T[p]:=by rw[Ze,<-l];exact(D8 T d).1
  rw[show 3*p=p*3 by omega]at t;have a:((p:Int)==(T.length:Int))=false:=by simp;omega
  go_in;go_wp2;go_region;go_wp2;go_region;go_wp2;go_ret;exact⟨fQ<|by rw[c],j.drew.drew,(aH.refl _ _).drew.drew⟩
 .obtain⟨a,c,rfl⟩:=i.slice;have t:Ze<|af D=jV:=by rw[Ze,<-l,FI d];rfl
  have g:p=T.length:=by omega
  subst g;go_in;go_wp2;go_region;go_wp2;go_ret;exact⟨fQ (by rw[t];rfl),j.drew,(aH.refl _ _).drew⟩
def hk(ts:YV)(k:Nat):Bool:=(af ts).k==k
def tl(ts:YV)(k:Nat):YV:=if hk ts k=true then ts.tail else ts
def Nt(a:k≠0)(h:hk D k=true):D≠[]:=by rintro rfl;unfold hk at h;simp[af,jV]at h;omega
def RC.next{T:YV}(h:RC w n T D k b)(a:D≠[]):∃p:Nat,w.cell? ⟨n,1,none⟩=some (qI p)/\(∀o,w.frozen? ⟨n,o,none⟩=false)/\p<1048576/\b=false/\RC (w.setCell ⟨n,1,none⟩<|qI<|(p:Int)+1) n T D.tail k b:=by
 obtain⟨v,p,c,l,d,j,g⟩:=h;have e:p<T.length:=by
  obtain h|h:=Wx p T.length
  .exact h
  rw[FI<|by omega]at d;exact absurd d.symm a
 have i:b=false:=by cases b;rfl;exact absurd (j rfl) a
 refine⟨p,by simpa using bC c 1,bF c,by have:=g.1;omega,i,v,p+1,?_,by omega,?_,λh=>(by rw[i]at h;cases h),g.d<|(aH.refl _ _).set _ _⟩
 .simpa using bS c 1 (qI<|(p:Int)+1)
 rw[<-d];exact(D8 T e).2.symm
def fO(k:Nat)(h:k≠0)(c:Nat)(T a:YV)(d:Nat)(b:Bool)(w:Za)(l:RC w c T a d b):
 Zc prog 63 #[qP c,qI k] w λe o=>e=.returned (.bool<|hk a k)/\RC o c T (tl a k) d b/\aH c w o:=by
 have j:=Z<|uG b l;have y:=l.lt;cases hx:hk a k
 .have i:Ze<|tl a k=a:=by rw[tl,hx];rfl
  have n:(((af a).k:Int) != (k:Int))=true:=by unfold hk at hx;simp at hx ⊢;omega
  go_in;go_wp2_with fail;apply qR j;rintro q⟨p,g⟩;go_wp2;go_ret;exact⟨rfl,by rw[i];exact p,g⟩
 .have q:Ze<|tl a k=a.tail:=by rw[tl,hx];rfl
  have r:(((af a).k:Int) != (k:Int))=false:=by unfold hk at hx;simp at hx ⊢;omega
  go_in;go_wp2_with fail;apply qR j;rintro z⟨n,i⟩;obtain⟨p,c1,u,x,rfl,(g:Ze _)⟩:=n.next<|Z<|Nt h hx;have t:=n.lt;go_wp2;go_ret;exact⟨rfl,by rw[q];exact g,i.set _ _⟩
def jL(ts:YV)(k:Nat):ae:=if hk ts k=true then af ts else ⟨0,0,[]⟩
def nx(ts:YV)(k:Nat):YV:=if hk ts k=true then ts.tail else []
def bx(ts:YV)(k:Nat)(b:Bool):Bool:=b || !hk ts k
def eg{b:Bool}(h:hk D k=true):nx D k=D.tail/\bx D k b=b/\jL D k=af D/\tl D k=D.tail:=by unfold nx bx jL tl;simp[h]
def fC{b:Bool}(h:hk D k=false):nx D k=[]/\bx D k b=true/\jL D k=⟨0,0,[]⟩/\tl D k=D:=by unfold nx bx jL tl;simp[h]
def RC.l{T:YV}(h:RC w n T D k b)(y:n<W.heap.size)(o:Nat)(x:Zb):RC (w.setCell ⟨W.heap.size,o,none⟩ x) n T D k b:=by
 obtain⟨v,p,d,e,i,j,l,c⟩:=h;refine⟨v,p,bY d (by omega) _ _,e,i,j,l,?_⟩;obtain c|⟨g,cap,a,q,r,t,u⟩:=c
 .exact .inl c
 exact .inr ⟨g,cap,a,q,r,bY t (by omega) _ _,u⟩
def RC.drop{T:YV}(h:RC w n T D k b):T.drop (T.length-D.length)=D/\D.length<=T.length:=by obtain⟨v,p,c,d,a,e,g⟩:=h;subst a;simp only[Wp];rw[show T.length-(T.length-p)=p by omega];exact⟨rfl,by omega⟩
def RC.last{T:YV}(h:RC w n T D.tail k b)(B:T.drop (T.length-D.length)=D/\D.length<=T.length)(u:D≠[]):
 ∃g cap q:Nat,w.cell? ⟨n,0,none⟩=some (qL g T.length cap)/\w.cell? ⟨n,1,none⟩=some (qI<|(q:Int)+1)/\(∀o,w.frozen? ⟨n,o,none⟩=false)/\q<T.length/\T.length<=1048576/\True/\g<n/\g<w.heap.size /\
  w.cell? ⟨g,q*3,none⟩=some (qI (af D).k)/\w.cell? ⟨g,q*3+1,none⟩=some (qI (af D).n)/\w.cell? ⟨g,q*3+2,none⟩=some (.string ⟨(af D).s.toArray⟩):=by
 obtain⟨v,p,i,F,A,G,y⟩:=h;have E:0<D.length:=by cases D with
  |nil=>exact absurd rfl u
  |cons a l=>simp
 have z:T.length-p=D.length-1:=by have:=Wd List.length A;simpa using this
 have⟨x,C⟩:T.length-D.length<T.length/\p=(T.length-D.length)+1:=by omega
 obtain⟨g,cap,rfl,j,r,c,d,e⟩:=y.cells x;have t:T[T.length-D.length]=af D:=by have:=(D8 T x).1;rw[B.1]at this;exact this.symm
 rw[t]at c d e;rw[show 3*(T.length-D.length)=(T.length-D.length)*3 by omega]at c d e;refine⟨g,cap,T.length-D.length,by simpa using bC i 0,?_,bF i,x,y.1,trivial,j,r,c,d,e⟩;have:=bC i 1;simp at this;rw[this,C];rfl
def EK(k:Nat)(h:k≠0){T:YV}(b:Bool)(A:RC w n T D i b):
 Zc prog 208 #[qP n,qI k] w λe B=>e=.returned (zY<|jL D k)/\RC B n T (nx D k) i (bx D k b)/\aH n w B:=by
 have l:=Z<|fO k h n T D i b;have p:=Z A;have d:=A.lt;cases hx:hk D k
 .obtain⟨C,E,F,G⟩:=fC (b:=b) hx;rw[hx,G]at l;rw[C,E,F];go_in;go_wp2_with fail;apply qR<|l _<|p.alloc _;rintro J⟨t,r⟩;have o:=Z t;have c:=Z r;go_wp2_with fail;apply qR<|A0 b o;rintro K⟨u,g⟩;have a:=(c.trans g).q (by omega)<|aM w<|.cells #[qI 0,qI 0,.string {data:=#[]}] 180;have x:=bC a 0;have y:=bC a 1;have z:=bC a 2;have I:=bF a;have H:=lB a;simp at x y z;have q:=Z u;have j:=Z<|((aH.refl n w).alloc<|.cells #[qI 0,qI 0,.string {data:=#[]}] 180).trans<|c.trans g;go_wp2_with fail;refine VI (v:=.agg #[qI 0,qI 0,.string ⟨#[]⟩]) ?_ rfl ⟨rfl,((q.l d _ _).l d _ _).l d _ _,((j.l (VR _) _).l (VR _) _).l (VR _) _⟩;simp[Zh,results208,go_sem,x,y,z]
 .obtain⟨C,E,F,G⟩:=eg (b:=b) hx;rw[hx,G]at l;rw[C,E,F];go_in;go_wp2_with fail;apply qR<|l _<|p.alloc _;rintro U⟨c,j⟩;obtain⟨g,cap,q,c0,c1,N,P,J,O,H,I,Q,R,S⟩:=c.last (Z p.drop)<|Z<|Nt h hx;have a:=j.q (by omega)<|aM w<|.cells #[qI 0,qI 0,.string {data:=#[]}] 180;have x:=bC a 0;have y:=bC a 1;have z:=bC a 2;have M:=bF a;have L:=lB a;have K:=c.lt;simp at x y z;have r:=Z c;generalize t:af D=u at*;have o:=Z t;go_wp2;go_region;go_wp2_with refine VI (v:=.agg #[qI u.k,qI u.n,qT u.s]) ?_ rfl ⟨?_,?_,?_⟩
  .simp[Zh,results208,go_sem,x,y,z]
  .rw[o];rfl
  .exact(((r.l d _ _).l d _ _).l d _ _).drew
  exact((((Z<|((aH.refl n w).alloc<|.cells #[qI 0,qI 0,.string {data:=#[]}] 180).trans j).l qZ _).l qZ _).l qZ _).drew
def Lk(a b c:Zb)(w:Za):(Instr.field 180 (.agg #[a,b,c]) 1).run prog w=.ok b w:=by simp[Instr.field,go_sem,asAgg]
def Da(a b c:Zb)(w:Za):(Instr.field 180 (.agg #[a,b,c]) 2).run prog w=.ok c w:=by simp[Instr.field,go_sem,asAgg]
def uA{T:YV}(b:Bool)(d:RC w n T D k b):
 Zc prog 150 #[qP n] w λe c=>e=.returned (.string ⟨(jL D 1).s.toArray⟩)/\RC c n T (nx D 1) k (bx D 1 b)/\aH n w c:=by
 have h:=Da;go_in;go_wp2_with fail;apply qR<|Z<|EK 1 (by decide) b d;rintro i⟨g,a⟩;rw[kg];go_wp2;go_ret;exact⟨rfl,g,a⟩
def En{T:YV}(b:Bool)(d:RC w n T D k b):
 Zc prog 215 #[qP n] w λe c=>e=.returned (qI (jL D 2).n)/\RC c n T (nx D 2) k (bx D 2 b)/\aH n w c:=by
 have h:=Lk;go_in;go_wp2_with fail;apply qR<|Z<|EK 2 (by decide) b d;rintro i⟨g,a⟩;rw[kg];go_wp2;go_ret;exact⟨rfl,g,a⟩
def mW:Y4->YV->Option YV
 |[],ts=>some ts
 |k::ks,ts=>if hk ts k=true then mW ks ts.tail else none
def QY(w:Za)(rb:Nat)(T:YV)(o:Option YV)(d:Nat)(b:Bool):Prop:=match o with
 |some r=>RC w rb T r d b
 |none=>RC w rb T [] d true
def Ee(w:Za)(lb:Nat)(ks:Y4):Prop:=lb<w.heap.size/\∀i (h:i<ks.length),w.cell? ⟨lb,i,none⟩=some (qI ks[i])
def NW(ks:Y4)(i:Nat)(o:Option YV)(ts:YV)(fl:Bool):Prop:=
 (fl=false/\mW (ks.drop i) ts=o)\/(fl=true/\ts=[]/\o=none)
def mT(c:Y4)(n:Nat)(Q:c.length=n)(N:∀k∈c,k≠0)(R:n<=100)(u K:Nat){T:YV}{d:Nat}(b:Bool)(P:RC w j T D d b)(O:Ee w u c)(A:u≠j):
 Zc prog 149 #[.pointer<|some ⟨j,0,none⟩,.slice (some ⟨u,0,none⟩) n K] w λe G=>e=.returned (.tuple #[])/\QY G j T (mW c D) d b/\aH j w G:=by
 subst Q;have J:=Z P;have E:=Z O;have C:=Z N;go_in;go_wp2
 go_loopw [8] (λa wr=>∃i:Nat,i<=c.length/\a=.int .i64 i/\Ze (∃g l,RC wr j T g d (b||l)/\NW c i (mW c D) g l)/\Ze (aH j w wr)) (λa _=>c.length-(intOf a).toNat)
 exact⟨0,Wi _,rfl,⟨D,false,by simpa using J.o,.inl ⟨rfl,rfl⟩⟩,aH.refl _ _⟩
 case round=>
  obtain⟨i,hi,rfl,F,x⟩:=hrel;by_cases h:i<c.length
  .have U:wr.cell? ⟨u,i,none⟩=some (.int .i64 c[i]):=by rw[x.cell E.1 A];exact E.2 i h
   obtain⟨g,l,B,p⟩:=F.o;have H:=Z<|EK c[i] (C _<|VQ h) (b||l) B;have I:Ze (∀r,RC r j T (nx g c[i]) d (bx g c[i]<|b||l)->∃q o,RC r j T q d (b||o)/\NW c (i+1) (mW c D) q o):=by
    intro r t;cases hx:hk g c[i]
    .obtain⟨L,M,_,_⟩:=fC (b:=b||l) hx;rw[L,M]at t;refine⟨[],true,by simpa using t,.inr ⟨rfl,rfl,?_⟩⟩;obtain⟨_,y⟩|⟨_,_,y⟩:=p
     .rw[<-y,VJ h,mW,hx];rfl
     exact y
    obtain⟨L,M,_,_⟩:=eg (b:=b||l) hx;rw[L,M]at t;obtain⟨rfl,y⟩|⟨_,y,_⟩:=p
    .refine⟨g.tail,false,t,.inl ⟨rfl,?_⟩⟩;rw[<-y,VJ h,mW,hx];rfl
    subst y;exact absurd rfl<|Nt (C _<|VQ h) hx
   generalize c[i]=V at*;go_wp2_with fail;apply qR H;rintro r⟨S,z⟩;go_wp2;go_roundw;exact⟨i+1,by omega,by go_num,Z<|I r S,Z<|x.trans z⟩;simp[intOf];omega
  have r:Ze<|QY wr j T (mW c D) d b:=by
   obtain⟨g,l,o,q⟩:=F.o;unfold Ze;obtain⟨rfl,p⟩|⟨rfl,rfl,p⟩:=q
   .rw[Wo<|by omega]at p;rw[<-p];simpa[mW,QY]using o
   rw[p];simpa[QY]using o
  go_wp2;exact WL (v:=.tuple #[]) (by simp[Zh,results149,go_sem]) rfl ⟨rfl,r,x⟩
def cE(w:Za)(rb:Nat):aA->Zb->Prop
 |.nil,v=>v=.pointer none
 |.node _ _ a l r,v=>∃(n:Nat) (vl vr:Zb),v=qP n/\rb<n /\
  w.heap[n]?=some (.cells #[qI a.op,qI a.aC,qI a.n,qT a.s,qT a.src,qT a.name,vl,vr] 269)/\cE w rb l vl/\cE w rb r vr
def cE.d(b:aH k w W):∀{t:aA}{v:Zb},cE w k t v->cE W k t v
 |.nil,_,h=>h
 |.node _ _ a l r,v,⟨n,vl,vr,hv,hn,hb,hl,hr⟩=>⟨n,vl,vr,hv,hn,b.q (by omega) hb,cE.d b hl,cE.d b hr⟩
def cE.lit(c:k<n)(a m:Int)(s:Y9)(l:YX)(d:s=⟨l.toArray⟩)(b:w.heap[n]?=some (.cells #[.int .i64 0,.int .i64 a,.int .i64 m,.string s,.string {data:=#[]},.string {data:=#[]},.pointer none,.pointer none] 269)):
 cE w k (fR a m l) (qP n):=by subst d;exact⟨n,_,_,rfl,c,b,rfl,rfl⟩
def cE.name(d:k<n)(a b:YX)(c:w.heap[n]?=some (.cells #[qI 1,qI 0,qI 0,.string {data:=#[]},qT a,qT b,.pointer none,.pointer none] 269)):
 cE w k (eB a b) (qP n):=⟨n,_,_,rfl,d,c,rfl,rfl⟩
def cE.one(d:k<n)(a:Nat)(x:aA)(b:Zb)(c:w.heap[n]?=some (.cells #[qI a,qI 0,qI 0,.string {data:=#[]},.string {data:=#[]},.string {data:=#[]},b,.pointer none] 269))(e:cE w k x b):
 cE w k (ir a x) (qP n):=⟨n,_,_,rfl,d,c,e,rfl⟩
def cE.two(e:k<n)(a:Nat)(x y:aA)(b c:Zb)(d:w.heap[n]?=some (.cells #[qI a,qI 0,qI 0,.string {data:=#[]},.string {data:=#[]},.string {data:=#[]},b,c] 269))(g:cE w k x b)(h:cE w k y c):
 cE w k (kL a x y) (qP n):=⟨n,_,_,rfl,e,d,g,h⟩
def gB(w:Za)(rb:Nat)(T:YV)(d:Nat)(b:Bool)(spec:Option<|aA×YV)(e:Zg)(w':Za):Prop:=
 aH rb w w'/\∃v:Y8,e=.returned (.pointer v)/\match spec with
  |some (x,r)=>cE w' rb x (.pointer v)/\RC w' rb T r d b
  |none=>RC w' rb T [] d true
def gB.some_{T:YV}{a:Option (aA×YV)}{v:Y8}(e:a=some (R,D))(c:aH n w W)(g:cE W n R<|.pointer v)(d:RC W n T D k b):
 gB w n T k b a (.returned<|.pointer v) W:=by subst e;exact⟨c,v,rfl,g,d⟩
def gB.none_{T:YV}{a:Option (aA×YV)}{v:Y8}(e:a=none)(c:aH n w W)(d:RC W n T [] k true):
 gB w n T k b a (.returned<|.pointer v) W:=by subst e;exact⟨c,v,rfl,d⟩
def CQ(f:FuncId)(d:Nat)(p:bg):Prop:=∀rb T ts b w,RC w rb T ts d b->Zc prog f #[qP rb] w (gB w rb T d b<|p ts)
def NL{m:Int}{s:Y9}:
 Zc prog 336 #[.agg #[.int .i64 a,.int .i64 m,.string s]] w λe b=>∃n,e=.returned (.pointer<|some ⟨n,0,none⟩)/\w.heap.size<=n/\b.heap[n]?=some (.cells #[.int .i64 0,.int .i64 a,.int .i64 m,.string s,.string {data:=#[]},.string {data:=#[]},.pointer none,.pointer none] 269)/\Below w.heap.size w b:=by
 go_in;go_wp2;go_ret;refine⟨_,rfl,?_,iL _ _<|by simp,?_⟩
 .simp
 .exact(qA).alloc (by simp) _
def nE(h:(af D).k=k):hk D k=true:=by unfold hk;simp[h]
def nN(h:(af D).k≠k):hk D k=false:=by unfold hk;simp[h]
def qH:bg:=λts=>if (af ts.tail).k=10 then (if (af ts.tail.tail).k=1 then some (eB (af ts).s (af ts.tail.tail).s,ts.tail.tail.tail)else none)else some (eB [] (af ts).s,ts.tail)
def Px{T:YV}(b:Bool)(C:RC w n T D k b)(G:(af D).k=1):
 Zc prog 337 #[qP n] w (gB w n T k b<|qH D):=by
 have r:=Z<|uA b C;obtain⟨g,i,o,_⟩:=eg (b:=b)<|nE G;rw[g,i,o]at r;have K:=C.lt;by_cases a:(af D.tail).k=10
 .have B:Ze<|qH D=if (af D.tail.tail).k=1 then some (eB (af D).s (af D.tail.tail).s,D.tail.tail.tail)else none:=by rw[Ze,qH,VG a]
  have E:=nE a;obtain⟨_,_,_,F⟩:=eg (b:=b) E;go_in;go_wp2_with fail;apply qR r;rintro J⟨z,u⟩;have A:=Z<|fO 10 (by decide) n T D.tail k b J z;rw[E,F]at A;have p:=Z u;go_wp2_with fail;apply qR A;rintro L⟨j,x⟩;have t:=Z<|uA b j;have q:=Z<|p.trans x;have H:=j.lt;go_wp2_with fail;apply qR t;rintro M⟨l,y⟩;have e:=Z l;have d:=Z<|q.trans y;have I:=l.lt;go_wp2;go_ret;by_cases c:(af D.tail.tail).k=1
  .obtain⟨g,i,o,_⟩:=eg (b:=b)<|nE c;have h:=e.o;rw[g,i]at h;rw[o];exact gB.some_ (by rw[B,VG c]) (d.alloc _) (cE.name (by omega) _ _<|aM _ _)<|h.alloc _
  obtain⟨g,i,o,_⟩:=fC (b:=b)<|nN c;have h:=e.o;rw[g,i]at h;exact gB.none_ (by rw[B,VF c]) (d.alloc _)<|h.alloc _
 .have t:Ze<|qH D=some (eB [] (af D).s,D.tail):=by rw[Ze,qH,VF a]
  have q:=nN a;obtain⟨_,_,_,u⟩:=fC (b:=b) q;go_in;go_wp2_with fail;apply qR r;rintro y⟨l,h⟩;have p:=Z<|fO 10 (by decide) n T D.tail k b y l;rw[q,u]at p;have d:=Z h;go_wp2_with fail;apply qR p;rintro z⟨c,j⟩;have e:=Z c;have x:=c.lt;go_wp2;go_ret;exact gB.some_ t ((Z<|d.trans j).alloc _) (cE.name (by omega) _ _<|aM _ _)<|e.alloc _
def RC.deep{T:YV}(h:RC w n T D k b)(a:Nat)(x:Int)(j:x=a):RC (w.setCell ⟨n,2,none⟩<|qI x) n T D a b:=by obtain⟨v,p,c,d,e,g,i⟩:=h;subst j;exact⟨v,p,by simpa using bS c 2 (qI a),d,e,g,i.d<|(aH.refl _ _).set _ _⟩
def RC.c{T:YV}(h:RC w n T D k b):w.cell? ⟨n,2,none⟩=some (qI k)/\w.cell? ⟨n,3,none⟩=some (.bool b)/\(∀o,w.frozen? ⟨n,o,none⟩=false):=by obtain⟨v,p,a,_⟩:=h;exact⟨by simpa using bC a 2,by simpa using bC a 3,bF a⟩
def RC.below{T:YV}(h:RC w n T D k b)(a:qB w W):RC W n T D k b:=
 h.d ((aH.refl _ _).below a) (a.block n h.lt)
def UX(f:FuncId):Prop:=∀(a:Y_)(w:Za),(Zi f a).run prog w=.ok (.enter f a) w
def J7(f:FuncId)(p:UX f)(G:n<=20)(q:bg)(H:n<20->CQ f (n+1) q)(k:n=20->∀d,q d=none)(h:Nat)(T d:YV)(b:Bool)(w:Za)(g:RC w h T d n b):
 Zc prog 283 #[qP h,.func (.func f) #[qP h] #[]] w (gB w h T n b<|q d):=by
 obtain⟨c2,c3,F⟩:=g.c;have I:=g.lt;have A:=Z g;have C:∀(a:Y_) (w:Za),(Zi f a).run prog w=.ok (.enter f a) w:=p;by_cases o:n<20
 .have u:=Z<|H o;have D:((n:Int)==20)=false:=by simp;omega
  have l:=Z<|g.deep (n+1) ((n:Int)+1) (by omega);clear g H k p;go_in;go_wp2_with apply(u h T d b _ l).mono;rintro e L⟨j,a,rfl,c⟩;have i:=Z<|((aH.refl h w).set 2<|qI<|(n:Int)+1).trans j;clear j;cases hq:q d with
  |none=>
   rw[hq]at c;obtain⟨t,x,rf⟩:=c.c;have r:=c.lt;have j:=Z<|c.deep n (n:Int) rfl;clear c;go_wp2;go_ret;exact gB.none_ hq (i.set _ _) j
  |some y=>
   obtain⟨x,r⟩:=y;rw[hq]at c;obtain⟨t,j⟩:=c;obtain⟨J,K,rf⟩:=j.c;have E:=j.lt;have z:=Z<|j.deep n (n:Int) rfl;have B:=Z t;clear j t;go_wp2;go_ret;exact gB.some_ hq (i.set _ _) (B.d<|(aH.refl _ _).set _ _) z
 .have c:n=20:=by omega
  subst c;have j:=Z<|k rfl d;clear H k p g;go_in;go_wp2_with fail;apply qR<|A0 b A;rintro k⟨i,g⟩;go_wp2;go_ret;exact gB.none_ j g i
def pk(val:bg):bg:=λts=>if (af ts).k=7 then match val ts.tail with
 |none=>none
 |some (x,r)=>if (af r).k=8 then some (x,r.tail)else none
 else none
def gM(w:Za)(a:Y4){C:Y_}(t:Zf)(b:C=(a.map λk=>qI (k:Nat)).toArray):Ee (w.alloc<|.cells C t) w.heap.size a:=by refine⟨by simp,λi h=>?_⟩;rw[bC<|aM w _];subst b;simp[h]
def pf:mW [k] D=if (af D).k=k then some D.tail else none:=by unfold mW hk mW;simp
def KW(D:n<=20)(c:bg)(H:n<20->CQ 154 (n+1) c)(g:n=20->∀d,c d=none):CQ 338 n<|pk c:=by
 intro rb T d b w h;have i:=Z<|fO 7 (by decide) rb T d n b w h;have t:=Z<|J7 154 (λa w=>by go_simp) D c H g rb T;clear H g h;by_cases p:(af d).k=7
 .have g:=nE p;obtain⟨_,_,_,h⟩:=eg (b:=b) g;rw[g,h]at i;have B:Ze<|pk c d=match c d.tail with|none=>none|some (x,r)=>if (af r).k=8 then some (x,r.tail)else none:=by rw[Ze,pk,VG p]
  clear g h;go_in;go_wp2_with fail;apply qR i;rintro F⟨k,j⟩;have l:=Z k;have h:=Z j;clear k j i;go_wp2_with apply(t d.tail b F l).mono;rintro e q⟨o,a,rfl,j⟩;have k:=Z<|h.trans o;clear o h l;cases hv:c d.tail with
  |none=>
   rw[hv]at j;have y:=j.lt;have u:=Z<|mT [8] 1 rfl (by decide) (by decide) q.heap.size 1 true (j.alloc<|.cells #[qI 8] 129) (gM q [8] _ rfl) (by omega);have h:Ze<|pk c d=none:=by rw[Ze,B,hv]
   clear j hv;go_wp2_with fail;apply qR u;rintro z⟨o,l⟩;go_wp2;go_ret;exact gB.none_ h ((k.alloc _).trans l) o
  |some y=>
   obtain⟨x,r⟩:=y;rw[hv]at j;obtain⟨g,h⟩:=j;have E:=h.lt;have C:=Z g;have u:=Z<|mT [8] 1 rfl (by decide) (by decide) q.heap.size 1 b (h.alloc<|.cells #[qI 8] 129) (gM q [8] _ rfl) (by omega);rw[pf]at u;have o:Ze<|pk c d=if (af r).k=8 then some (x,r.tail)else none:=by rw[Ze,B,hv]
   clear h g hv;go_wp2_with fail;apply qR u;rintro G⟨h,g⟩;have z:=Z h;have l:=Z<|(k.alloc<|.cells #[qI 8] 129).trans g;have A:=Z<|C.d<|((aH.refl _ _).alloc<|.cells #[qI 8] 129).trans g;clear h g u;go_wp2;go_ret;have h:=z.o;by_cases g:(af r).k=8
   .rw[VG g]at h;exact gB.some_ (by rw[o,VG g]) l A h
   rw[VF g]at h;exact gB.none_ (by rw[o,VF g]) l h
 have g:=nN p;obtain⟨_,_,_,h⟩:=fC (b:=b) g;rw[g,h]at i;have l:Ze<|pk c d=none:=by rw[Ze,pk,VF p]
 clear g h;go_in;go_wp2_with fail;apply qR i;rintro o⟨h,g⟩;have k:=Z h;have j:=Z g;clear h g i;go_wp2_with fail;apply qR<|A0 b k;rintro i⟨h,g⟩;go_wp2;go_ret;exact gB.none_ l (j.trans g) h
def QA(v:dU)(d:CQ 338 k<|pk v.val):CQ 335 k v.single:=by
 intro rb T c b w a;have i:=Z<|uG b a;have P:=a.lt;have y:=Z d;clear a d;go_in;go_wp2_with fail;apply qR i;rintro I⟨g,hk⟩;have d:=Z hk;have h:=Z g;clear i g hk;by_cases t:(af c).k=1
 .have p:Ze<|v.single c=qH c:=by unfold Ze dU.single dw qH;simp[t]
  have q:=Z<|Px b h t;rw[t];go_wp2_with refine q.mono ?_;rintro e r⟨B,a,rfl,D⟩;go_wp2;go_ret;exact⟨d.trans B,a,rfl,by rw[p];exact D⟩
 by_cases u:(af c).k=2
 focus
  have p:Ze<|v.single c=some (fR 1 (af c).n [],c.tail):=by unfold Ze dU.single dw;simp[u]
  obtain⟨i,j,l,_⟩:=eg (b:=b)<|nE u;have q:=Z<|En b h;rw[i,j,l]at q;rw[u];clear i j l;go_wp2_with fail;apply qR q;rintro r⟨g,hk⟩;replace d:=Z<|d.trans hk;replace h:=Z g
 rotate_left
 by_cases x:(af c).k=3
 focus
  have p:Ze<|v.single c=some (fR 2 0 (af c).s,c.tail):=by unfold Ze dU.single dw;simp[x]
  obtain⟨i,j,l,_⟩:=eg (b:=b)<|nE x;have N:=Da;have q:=Z<|EK 3 (by decide) b h;rw[i,j,l,kg]at q;rw[x];clear i j l;go_wp2_with fail;apply qR q;rintro r⟨g,hk⟩;replace d:=Z<|d.trans hk;replace h:=Z g
 rotate_left
 focus
  have K:(((af c).k:Int)==1)=false:=by simp;omega
  have L:(((af c).k:Int)==2)=false:=by simp;omega
  have M:(((af c).k:Int)==3)=false:=by simp;omega
  have i:=Z<|fO 46 (by decide) rb T c k b I h;by_cases l:(af c).k=46
  focus
   have p:Ze<|v.single c=some (fR 3 1 [],c.tail):=by unfold Ze dU.single dw;simp[l]
   rw[nE l,(eg (b:=b)<|nE l).2.2.2]at i;go_wp2_with fail;apply qR i;rintro r⟨g,hk⟩;replace d:=Z<|d.trans hk;replace h:=Z g
  rotate_left
  focus
   rw[nN l,(fC (b:=b)<|nN l).2.2.2]at i;go_wp2_with fail;apply qR i;rintro r⟨g,hk⟩;replace d:=Z<|d.trans hk;replace h:=Z g;replace i:=Z<|fO 47 (by decide) rb T c k b r h;by_cases o:(af c).k=47
   focus
    have p:Ze<|v.single c=some (fR 3 0 [],c.tail):=by unfold Ze dU.single dw;simp[o]
    rw[nE o,(eg (b:=b)<|nE o).2.2.2]at i;go_wp2_with fail;apply qR i;rintro G⟨g,hk⟩;replace d:=Z<|d.trans hk;replace h:=Z g
   rotate_left
   focus
    rw[nN o,(fC (b:=b)<|nN o).2.2.2]at i;go_wp2_with fail;apply qR i;rintro G⟨g,hk⟩;replace d:=Z<|d.trans hk;replace h:=Z g;replace i:=Z<|fO 45 (by decide) rb T c k b G h;by_cases j:(af c).k=45
    focus
     have p:Ze<|v.single c=some (fR 0 0 [],c.tail):=by unfold Ze dU.single dw;simp[j]
     rw[nE j,(eg (b:=b)<|nE j).2.2.2]at i;go_wp2_with fail;apply qR i;rintro J⟨g,hk⟩;replace d:=Z<|d.trans hk;replace h:=Z g
    rotate_left
    focus
     have p:Ze<|v.single c=pk v.val c:=by unfold Ze dU.single dw pk;simp[t,u,x,j,l,o];rfl
     rw[nN j,(fC (b:=b)<|nN j).2.2.2]at i;go_wp2_with fail;apply qR i;rintro J⟨g,hk⟩;replace d:=Z<|d.trans hk;replace h:=Z g;go_wp2_with apply(y rb T c b _ h).mono;rintro e Q⟨C,a,rfl,D⟩;go_wp2;go_ret;exact⟨d.trans C,a,rfl,by rw[p];exact D⟩
 all_goals
  clear g hk;go_wp2_with apply NL.mono;rintro e R⟨n,rfl,O,F,E⟩;have A:=Z<|h.below E;have z:=Z<|d.below E;have H:=h.lt;have g:=Z F;clear F E;go_wp2;go_ret;exact gB.some_ p z (cE.lit (by omega) _ _ _ _ rfl g) A
def Q9{f:Nat}(D:f=333/\n=335/\k=16/\i=2\/f=250/\n=284/\k=43/\i=3)(C:j<=20){p q z:bg}(a:∀c,z c=if (af c).k=k then (match p c.tail with|none=>none|some (x,r)=>some (ir i x,r))else q c)(H:j<20->CQ f (j+1) p)(d:j=20->∀c,p c=none)(h:CQ n j q):CQ f j z:=by
 intro rb T c b w g;have y:=Z<|fO k (by omega) rb T c j b w g;have u:=Z<|a c;clear g a;by_cases hk:(af c).k=k
 focus
  rw[VG hk]at u;rw[nE hk,(eg (b:=b)<|nE hk).2.2.2]at y
 rotate_left
 focus
  rw[VF hk]at u;rw[nN hk,(fC (b:=b)<|nN hk).2.2.2]at y
 all_goals
  rcases D with⟨rfl,rfl,rfl,rfl⟩|⟨rfl,rfl,rfl,rfl⟩;all_goals
   have o:=Z<|J7 _ (λa w=>by go_simp) C p H d rb T;have g:=Z<|h rb T c b;clear H d h hk
   first
    |go_in
    |go_in
   go_wp2_with apply(U y).mono;rintro e B⟨rfl,h,d⟩;have l:=Z h;have t:=Z d;clear h d y;go_wp2_with fail
   first
    |apply(U o c.tail b B l.o).mono
    |apply(U g B l.o).mono
   rintro e E⟨y,a,rfl,d⟩;have h:=Z<|t.o.trans y;have A:=Z d;clear y t l d o g;go_wp2;go_ret
   first
    |exact⟨h.o,a,rfl,by rw[u.o];exact A.o⟩
    | (have d:=A.o
       cases hv:p c.tail with
       |none=>
        rw[hv]at d;exact gB.none_ (by rw[u.o,hv]) (h.o.alloc _)<|d.alloc _
       |some y=>
        obtain⟨x,r⟩:=y;rw[hv]at d
        exact gB.some_ (by rw[u.o,hv]) (h.o.alloc _) (cE.one d.2.lt _ x _ (aM _ _)<|d.1.d<|(aH.refl _ _).alloc _)<|d.2.alloc _)
def Qz(c:n<=20)(v:dU)(H:n<20->CQ 333 (n+1) v.a)(a:n=20->∀d,v.a d=none)(b:CQ 335 n v.single):CQ 333 n v.signed:=Q9 (.inl ⟨rfl,rfl,rfl,rfl⟩) c (λ_=>rfl) H a b
def VB(c:n<=20)(v:dU)(H:n<20->CQ 250 (n+1) v.no)(a:n=20->∀d,v.no d=none)(b:CQ 284 n v.comp):CQ 250 n v.c:=Q9 (.inr ⟨rfl,rfl,rfl,rfl⟩) c (λ_=>rfl) H a b
def E0(w wr:Za)(rb:Nat)(T:YV)(d:Nat)(b:Bool)(part:bg)(op:Nat->Option Nat)(sp:Option<|aA×YV)(g:Nat)(a:Y8):Prop:=
 aH rb w wr/\((∃x ts,ts.length<g/\cE wr rb x (.pointer a)/\RC wr rb T ts d b/\ew part op (ts.length+1) x ts=sp)\/(0<g/\RC wr rb T [] d true/\sp=none))
def sP {T:YV}{c:bg}{op:Nat->Option Nat}{a:Y8}(g:cI c)(e:aH n w W)(d:match c D with
 |some (x,r)=>cE W n x (.pointer a)/\RC W n T r k b
 |none=>RC W n T [] k true):E0 w W n T k b c op (du c op D) (D.length+1) a:=by
 refine⟨e,?_⟩;unfold du;cases hq:c D with
 |none=>rw[hq]at d;exact .inr ⟨by omega,d,rfl⟩
 |some y=>
  obtain⟨x,r⟩:=y;rw[hq]at d;exact .inl ⟨x,r,by have:=g _ _ _ hq;omega,d.1,d.2,rfl⟩
def TK{c:bg}(hs:cI c)(W:CQ 250 n c):CQ 210 n<|du c i_:=by
 intro rb T O b w S;have k:=Z W;have X:=Z S;have Q:=Z hs;have hz:=S.lt;generalize L:du c i_ O=N;have F:=Z L;go_in;go_wp2_with apply(k rb T O b w X).mono;rintro e w1⟨I,a,rfl,hp⟩;have P:=Z<|sP (op:=i_) Q I hp;rw[F]at P;go_wp2
 go_loopg [3] (O.length+1) (λg x wr=>∃a,x=.pointer a/\Ze (E0 w wr rb T n b c i_ N g a))
 exact⟨a,rfl,P⟩;obtain⟨a',rfl,d⟩:=hrel;obtain⟨hk,hi⟩:=d.o;have C:=Z hk;clear hk d;obtain⟨x,tr,U,hx,A,Y⟩|⟨U,A,hn⟩:=hi
 .have R:=Z hx;have B:=Z Y;have aa:=A.lt;have u:=Z<|fO 41 (by decide) rb T tr n b _ A;by_cases z:(af tr).k=41
  .have J:i_ (af tr).k=some 17:=by rw[i_,VG z]
   have t:=nE z;rw[t,(eg (b:=b) t).2.2.2]at u;have i:=Z J;go_wp2_with fail;apply qR u;rintro w2⟨K,o⟩;have E:=Z K;have D:=Z<|C.trans o;have G:=Z<|R.d o;go_wp2_with apply(k rb T tr.tail b w2 E).mono;rintro e w3⟨p,a3,rfl,d⟩;have j:=Z<|D.trans p;have H:=Z<|G.d p;cases hq:c tr.tail with
   |none=>
    rw[hq]at d;have r:=Z d;have V:Ze<|N=none:=by rw[Ze,<-B];exact tt i hq
    have M:1<=tr.length:=by
     have:tr≠[]:=λe=>by have h:=i.o;rw[e]at h;cases h
     cases tr with
     |nil=>exact absurd rfl this
     |cons q l=>simp
    have y:=XU M U;go_wp2
    go_roundg 1
    case measure=>exact y
    exact⟨_,rfl,j.alloc _,.inr ⟨by omega,r.alloc _,V⟩⟩
   |some y=>
    obtain⟨y,r⟩:=y;rw[hq]at d;have h:=Z d;have l:=Z<|p8 (x:=x) Q rfl i hq;go_wp2
    go_roundg (r.length+1)
    case measure=>have:=l.2;omega
    exact⟨_,rfl,j.alloc _,.inl ⟨_,r,by omega,cE.two h.2.lt 17 x y _ _ (aM _ _) (H.d<|(aH.refl _ _).alloc _)<|h.1.d<|(aH.refl _ _).alloc _,h.2.alloc _,by rw[<-l.1,B]⟩⟩
  have o:i_ (af tr).k=none:=by rw[i_,VF z]
  have h:=nN z;rw[h,(fC (b:=b) h).2.2.2]at u;have q:Ze<|N=some (x,tr):=by rw[Ze,<-B];exact tu o
  go_wp2_with fail;apply qR u;rintro r⟨p,d⟩;have j:=Z p;have i:=Z<|C.trans d;have l:=Z<|R.d d;go_wp2;go_ret;exact gB.some_ q i l j
 have o:=Z hn;have l:=Z<|fO 41 (by decide) rb T [] n true _ A;have d:hk ([]:YV) 41=false:=rfl;rw[d,(fC (b:=b) d).2.2.2]at l;go_wp2_with fail;apply qR l;rintro p⟨j,i⟩;have h:=Z j;go_wp2;go_ret;exact gB.none_ o (Z<|C.trans i) h
def S5{c:bg}(hs:cI c)(W:CQ 210 n c):CQ 154 n<|du c kJ:=by
 intro rb T O b w S;have k:=Z W;have X:=Z S;have Q:=Z hs;have hz:=S.lt;generalize L:du c kJ O=N;have F:=Z L;go_in;go_wp2_with apply(k rb T O b w X).mono;rintro e w1⟨I,a,rfl,hp⟩;have P:=Z<|sP (op:=kJ) Q I hp;rw[F]at P;go_wp2
 go_loopg [3] (O.length+1) (λg x wr=>∃a,x=.pointer a/\Ze (E0 w wr rb T n b c kJ N g a))
 exact⟨a,rfl,P⟩;obtain⟨a',rfl,d⟩:=hrel;obtain⟨hk,hi⟩:=d.o;have C:=Z hk;clear hk d;obtain⟨x,tr,U,hx,A,Y⟩|⟨U,A,hn⟩:=hi
 .have R:=Z hx;have B:=Z Y;have aa:=A.lt;have u:=Z<|fO 42 (by decide) rb T tr n b _ A;by_cases z:(af tr).k=42
  .have J:kJ (af tr).k=some 18:=by rw[kJ,VG z]
   have t:=nE z;rw[t,(eg (b:=b) t).2.2.2]at u;have i:=Z J;go_wp2_with fail;apply qR u;rintro w2⟨K,o⟩;have E:=Z K;have D:=Z<|C.trans o;have G:=Z<|R.d o;go_wp2_with apply(k rb T tr.tail b w2 E).mono;rintro e w3⟨p,a3,rfl,d⟩;have j:=Z<|D.trans p;have H:=Z<|G.d p;cases hq:c tr.tail with
   |none=>
    rw[hq]at d;have r:=Z d;have V:Ze<|N=none:=by rw[Ze,<-B];exact tt i hq
    have M:1<=tr.length:=by
     have:tr≠[]:=λe=>by have h:=i.o;rw[e]at h;cases h
     cases tr with
     |nil=>exact absurd rfl this
     |cons q l=>simp
    have y:=XU M U;go_wp2
    go_roundg 1
    case measure=>exact y
    exact⟨_,rfl,j.alloc _,.inr ⟨by omega,r.alloc _,V⟩⟩
   |some y=>
    obtain⟨y,r⟩:=y;rw[hq]at d;have h:=Z d;have l:=Z<|p8 (x:=x) Q rfl i hq;go_wp2
    go_roundg (r.length+1)
    case measure=>have:=l.2;omega
    exact⟨_,rfl,j.alloc _,.inl ⟨_,r,by omega,cE.two h.2.lt 18 x y _ _ (aM _ _) (H.d<|(aH.refl _ _).alloc _)<|h.1.d<|(aH.refl _ _).alloc _,h.2.alloc _,by rw[<-l.1,B]⟩⟩
  have o:kJ (af tr).k=none:=by rw[kJ,VF z]
  have h:=nN z;rw[h,(fC (b:=b) h).2.2.2]at u;have q:Ze<|N=some (x,tr):=by rw[Ze,<-B];exact tu o
  go_wp2_with fail;apply qR u;rintro r⟨p,d⟩;have j:=Z p;have i:=Z<|C.trans d;have l:=Z<|R.d d;go_wp2;go_ret;exact gB.some_ q i l j
 have o:=Z hn;have l:=Z<|fO 42 (by decide) rb T [] n true _ A;have d:hk ([]:YV) 42=false:=rfl;rw[d,(fC (b:=b) d).2.2.2]at l;go_wp2_with fail;apply qR l;rintro p⟨j,i⟩;have h:=Z j;go_wp2;go_ret;exact gB.none_ o (Z<|C.trans i) h
def oN:Option Nat->Int
 |some o=>(o:Nat)
 |none=>0
def oB:Option Nat->Bool
 |some _=>true
 |none=>false
def rL(o:Option Nat):Zb:=.tuple #[qI<|oN o,.bool<|oB o]
def CM(w wr:Za)(rb:Nat)(T:YV)(d:Nat)(b:Bool)(part:bg)(op:Nat->Option Nat)(sp:Option<|aA×YV)(g:Nat)(a:Y8)(ts:YV)(b':Bool):Prop:=
 aH rb w wr/\RC wr rb T ts d b'/\((b'=b/\∃x,ts.length<g/\cE wr rb x (.pointer a)/\ew part op (ts.length+1) x ts=sp)\/(0<g/\ts=[]/\b'=true/\sp=none))
def E0.c{wr:Za}{T:YV}{c:bg}{l:Nat->Option Nat}{o:Option (aA×YV)}{a:Y8}(h:E0 w wr n T k b c l o i a):∃j p,CM w wr n T k b c l o i a j p:=by
 obtain⟨hk,h⟩:=h;obtain⟨x,j,d,e,g,q⟩|⟨d,e,g⟩:=h
 .exact⟨j,b,hk,g,.inl ⟨rfl,x,d,e,q⟩⟩
 exact⟨[],true,hk,e,.inr ⟨d,rfl,rfl,g⟩⟩
def CM.d{wr:Za}{T:YV}{c:bg}{j:Nat->Option Nat}{l:Option (aA×YV)}{a:Y8}(h:CM w wr n T k b c j l i a D L)(g:aH n wr W)(p:RC W n T D k L):CM w W n T k b c j l i a D L:=by
 obtain⟨o,u,d⟩:=h;refine⟨o.trans g,p,?_⟩;obtain⟨e,x,q,r,t⟩|d:=d
 .exact .inl ⟨e,x,q,r.d g,t⟩
 exact .inr d
def SP(k:Nat)(w:Za):Zc prog 332 #[qI k] w<|qE (rL<|iU k) w:=by
 by_cases a:k=15
 .subst a;go_in;go_wp2;exact VI (v:=rL<|iU 15) (by simp[Zh,results332,go_sem,rL,oN,oB,iU]) rfl ⟨rfl,rfl⟩
 by_cases b:k=16
 .subst b;go_in;go_wp2;exact VI (v:=rL<|iU 16) (by simp[Zh,results332,go_sem,rL,oN,oB,iU]) rfl ⟨rfl,rfl⟩
 have d:((k:Int)==15)=false:=by simp;omega
 have e:((k:Int)==16)=false:=by simp;omega
 have c:Ze<|iU k=none:=by rw[Ze,iU,VF a,VF b]
 go_in;go_wp2;exact VI (v:=rL none) (by simp[Zh,results332,go_sem,rL,oN,oB]) rfl ⟨by rw[c],rfl⟩
def Jh(k:Nat)(w:Za):Zc prog 334 #[qI k] w<|qE (rL<|gz k) w:=by
 by_cases a:k=17
 .subst a;go_in;go_wp2;exact VI (v:=rL<|gz 17) (by simp[Zh,results334,go_sem,rL,oN,oB,gz]) rfl ⟨rfl,rfl⟩
 by_cases b:k=18
 .subst b;go_in;go_wp2;exact VI (v:=rL<|gz 18) (by simp[Zh,results334,go_sem,rL,oN,oB,gz]) rfl ⟨rfl,rfl⟩
 by_cases c:k=19
 .subst c;go_in;go_wp2;exact VI (v:=rL<|gz 19) (by simp[Zh,results334,go_sem,rL,oN,oB,gz]) rfl ⟨rfl,rfl⟩
 have e:((k:Int)==17)=false:=by simp;omega
 have g:((k:Int)==18)=false:=by simp;omega
 have h:((k:Int)==19)=false:=by simp;omega
 have d:Ze<|gz k=none:=by rw[Ze,gz,VF a,VF b,VF c]
 go_in;go_wp2;exact VI (v:=rL none) (by simp[Zh,results334,go_sem,rL,oN,oB]) rfl ⟨by rw[d],rfl⟩
def MU{E:FuncId}(D:FuncId)(X:UX E)(W:UX D){c:bg}(h:Nat->Option Nat)(h0:h 0=none)(hs:cI c)(HP:CQ E n c)(HO:∀(k:Nat)(w:Za),Zc prog D #[qI k] w<|qE (rL<|h k) w)
 {i:Nat}{T I:YV}(b:Bool){w:Za}(hR:RC w i T I n b):
 Zc prog 330 #[qP i,.func (.func E) #[qP i] #[],.func (.func D) #[] #[]] w (gB w i T n b<|du c h I):=by
 have ai:∀(a:Y_) (w:Za),(Zi E a).run prog w=.ok (.enter E a) w:=X;have ah:∀(a:Y_) (w:Za),(Zi D a).run prog w=.ok (.enter D a) w:=W;have C:=Z HP;have B:=Z HO;have HR:=Z hR;have HS:=Z hs;have N:=Z h0;have hz:=hR.lt;generalize ad:du c h I=sp;have U:=Z ad;go_in;go_wp2_with apply(C i T I b w HR).mono;rintro e w1⟨F,a,rfl,hp⟩;have u:=sP (op:=h) HS F hp;rw[U]at u;obtain⟨J,b1,u⟩:=u.c;have HL:=Z u;have aj:=F.size;have R:=Z<|uG b1 u.2.1;go_wp2_with fail;apply qR R;rintro w2⟨z,aa⟩;go_wp2_with apply(B (af J).k w2).mono;rintro e w3⟨rfl,rfl⟩;unfold rL;go_wp2
 go_loopg [7,8,9] (I.length+1) (λg x o k wr=>∃a tr b',x=.pointer a/\o=qI (oN<|h (af tr).k)/\k=.bool (oB<|h (af tr).k)/\Ze (CM w wr i T n b c h sp g a tr b'))
 exact⟨a,J,b1,rfl,rfl,rfl,Z<|HL.d aa z⟩
 case round=>
  obtain⟨a',tr,b',rfl,rfl,rfl,HI⟩:=hrel;obtain⟨(O:Ze _),M,hi⟩:=HI.o;have ak:=M.lt;cases hop:h (af tr).k with
  |none=>
   have l:Ze<|gB w i T n b sp (.returned<|.pointer a') wr:=by
    obtain⟨rfl,x,p,d,j⟩|⟨p,d,rfl,j⟩:=hi
    .exact gB.some_ (by rw[<-j];exact tu hop) O d M
    exact gB.none_ j O<|d▸M
   rw[show oB none=false from rfl,show oN none=0 from rfl];go_wp2;go_ret;exact l
  |some o=>
   rw[show oB (some o)=true from rfl,show oN (some o)=(o:Nat)from rfl];obtain⟨rfl,x,h1,V,h3⟩|⟨h1,V,h4,h3⟩:=hi
   .have H:tr≠[]:=λe=>by rw[e]at hop;have:=N.o;rw[show(af ([]:YV)).k=0 from rfl,this]at hop;cases hop
    obtain⟨p,c1,cf,hp,rfl,z⟩:=M.next H;have S:=Z z;have HX:=Z V;have HC:=Z h3;have A:=Z hop;have ae:1<=tr.length:=by cases tr with
     |nil=>exact absurd rfl H
     |cons q l=>simp
    go_wp2_with apply(C i T tr.tail false _ S).mono;rintro e w3⟨G,a3,rfl,d⟩;have t:=(O.set 1<|qI<|(p:Int)+1).trans G;have ag:=HX.d<|((aH.refl i wr).set 1<|qI<|(p:Int)+1).trans G;have Q:Ze (∃L j K,L<=tr.length/\CM w (w3.alloc<|.cells #[qI o,qI 0,qI 0,.string {data:=#[]},.string {data:=#[]},.string {data:=#[]},.pointer a',.pointer a3] 269) i T n false c h sp L (some ⟨w3.heap.size,0,none⟩) j K):=by
     cases hq:c tr.tail with
     |none=>
      rw[hq]at d;exact⟨1,[],true,ae,t.alloc _,d.alloc _,.inr ⟨by omega,rfl,rfl,by rw[<-HC];exact tt A hq⟩⟩
     |some y=>
      obtain⟨y,r⟩:=y;rw[hq]at d;have l:=p8 (x:=x) HS N A hq;exact⟨r.length+1,r,false,by omega,t.alloc _,d.2.alloc _,.inl ⟨rfl,_,by omega,cE.two d.2.lt o x y _ _ (aM _ _) (ag.d<|(aH.refl _ _).alloc _)<|d.1.d<|(aH.refl _ _).alloc _,by rw[<-l.1,HC]⟩⟩
    obtain⟨L,j,K,Y,u⟩:=Q.o;have P:=Z u;go_wp2_with fail;apply qR<|Z<|uG K u.2.1;rintro w4⟨ac,ab⟩;go_wp2_with fail;apply qS<|B (af j).k w4;unfold rL;go_wp2
    go_roundg L
    case measure=>exact XU Y h1
    exact⟨_,j,K,rfl,rfl,rfl,Z<|P.d ab ac⟩
   exfalso;subst V;rw[show(af ([]:YV)).k=0 from rfl,N]at hop;cases hop
def ud(k:Nat)(w:Za):Zc prog 317 #[qI k] w λe j=>e=.returned (rL<|eP k)/\j=w:=by
 by_cases a:k=12
 .subst a;go_in;go_wp2;exact VI (v:=rL<|eP 12) (by simp[Zh,results317,go_sem,rL,oN,oB,eP]) rfl ⟨rfl,rfl⟩
 by_cases b:k=4
 .subst b;go_in;go_wp2;exact VI (v:=rL<|eP 4) (by simp[Zh,results317,go_sem,rL,oN,oB,eP]) rfl ⟨rfl,rfl⟩
 by_cases c:k=13
 .subst c;go_in;go_wp2;exact VI (v:=rL<|eP 13) (by simp[Zh,results317,go_sem,rL,oN,oB,eP]) rfl ⟨rfl,rfl⟩
 by_cases d:k=5
 .subst d;go_in;go_wp2;exact VI (v:=rL<|eP 5) (by simp[Zh,results317,go_sem,rL,oN,oB,eP]) rfl ⟨rfl,rfl⟩
 by_cases g:k=14
 .subst g;go_in;go_wp2;exact VI (v:=rL<|eP 14) (by simp[Zh,results317,go_sem,rL,oN,oB,eP]) rfl ⟨rfl,rfl⟩
 by_cases h:k=6
 .subst h;go_in;go_wp2;exact VI (v:=rL<|eP 6) (by simp[Zh,results317,go_sem,rL,oN,oB,eP]) rfl ⟨rfl,rfl⟩
 have l:((k:Int)==12)=false:=by simp;omega
 have n:((k:Int)==4)=false:=by simp;omega
 have o:((k:Int)==13)=false:=by simp;omega
 have p:((k:Int)==5)=false:=by simp;omega
 have q:((k:Int)==14)=false:=by simp;omega
 have r:((k:Int)==6)=false:=by simp;omega
 have i:Ze<|eP k=none:=by rw[Ze,eP,VF a,VF b,VF c,VF d,VF g,VF h]
 go_in;go_wp2;exact VI (v:=rL none) (by simp[Zh,results317,go_sem,rL,oN,oB]) rfl ⟨by rw[i],rfl⟩
def Ok{c:bg}(j:cI c)(g:CQ 333 n c):CQ 331 n<|du c gz:=by intro rb T k b w h;go_in;go_wp2_with apply(Z<|MU 334 (λa w=>by go_simp) (λa w=>by go_simp) gz rfl j g Jh b h).mono;rintro e l⟨d,a,rfl,i⟩;go_wp2;go_ret;exact⟨d,a,rfl,i⟩
def Vo{c:bg}(j:cI c)(g:CQ 331 n c):CQ 315 n<|du c iU:=by intro rb T k b w h;go_in;go_wp2_with apply(Z<|MU 332 (λa w=>by go_simp) (λa w=>by go_simp) iU rfl j g SP b h).mono;rintro e l⟨d,a,rfl,i⟩;go_wp2;go_ret;exact⟨d,a,rfl,i⟩
def LC{T:YV}(b:Bool){a:Y8}(A:RC w n T D k b)(E:cE w n R<|.pointer a):
 Zc prog 316 #[qP n,.pointer a] w (gB w n T k b<|jJ R D):=by
 have o:=Z<|fO 43 (by decide) n T D k b w A;have z:=Z E;have G:=A.lt;by_cases c:(af D).k=43
 .have l:=nE c;rw[l,(eg (b:=b) l).2.2.2]at o;have y:Ze<|jJ R D=if (af D.tail).k=45 then some (ir 5 R,D.tail.tail)else none:=by rw[Ze,jJ,VG c]
  go_in;go_wp2_with fail;apply qR o;rintro B⟨j,g⟩;have F:=j.lt;have x:=Z<|mT [45] 1 rfl (by decide) (by decide) B.heap.size 1 b (j.alloc<|.cells #[qI 45] 129) (gM B [45] _ rfl) (by omega);rw[pf]at x;have p:=Z g;have r:=Z<|z.d g;go_wp2_with fail;apply qR x;rintro C⟨u,i⟩;have q:=Z u;have e:=Z<|(p.alloc<|.cells #[qI 45] 129).trans i;have t:=Z<|r.d<|((aH.refl _ _).alloc<|.cells #[qI 45] 129).trans i;go_wp2;go_ret;have h:=q.o;by_cases d:(af D.tail).k=45
  .rw[VG d]at h;have h:RC C n T _ k b:=h;exact gB.some_ (by rw[y,VG d]) (e.alloc _) (cE.one h.lt 5 R _ (aM _ _)<|t.d<|(aH.refl _ _).alloc _)<|h.alloc _
  rw[VF d]at h;have h:RC C n T [] k true:=h;exact gB.none_ (by rw[y,VF d]) (e.alloc _)<|h.alloc _
 .have l:=nN c;rw[l,(fC (b:=b) l).2.2.2]at o;have u:Ze<|jJ R D=if (af D).k=45 then some (ir 4 R,D.tail)else none:=by rw[Ze,jJ,VF c]
  go_in;go_wp2_with fail;apply qR o;rintro x⟨j,g⟩;have B:=j.lt;have t:=Z<|mT [45] 1 rfl (by decide) (by decide) x.heap.size 1 b (j.alloc<|.cells #[qI 45] 129) (gM x [45] _ rfl) (by omega);rw[pf]at t;have p:=Z g;go_wp2_with fail;apply qR t;rintro y⟨r,i⟩;have q:=Z r;have e:=Z<|(p.alloc<|.cells #[qI 45] 129).trans i;go_wp2;go_ret;have h:=q.o;by_cases d:(af D).k=45
  .rw[VG d]at h;have h:RC y n T _ k b:=h;exact gB.some_ (by rw[u,VG d]) (e.alloc _) (cE.one h.lt 4 R _ (aM _ _)<|(Z<|(Z<|z.d g).d<|((aH.refl _ _).alloc<|.cells #[qI 45] 129).trans i).d<|(aH.refl _ _).alloc _)<|h.alloc _
  rw[VF d]at h;have h:RC y n T [] k true:=h;exact gB.none_ (by rw[u,VF d]) (e.alloc _)<|h.alloc _
def FA{c:bg}(P:CQ 315 n c):CQ 284 n<|fD c:=by
 intro rb T j b w L;have q:=Z P;have O:=Z L;have X:=L.lt;go_in;go_wp2_with apply(q rb T j b w O).mono;rintro e N⟨(h:Ze _),a,rfl,E⟩;cases hq:c j with
 |none=>
  rw[hq]at E;have u:Ze<|fD c j=none:=by rw[Ze,fD,hq]
  have t:=Z<|fO 44 (by decide) rb T [] n true N E;rw[show hk ([]:YV) 44=false from rfl,show tl [] 44=[]from rfl]at t;go_wp2_with fail;apply qR t;rintro y⟨p,l⟩;have d:=Z<|h.trans l;have i:=Z<|uG true p;go_wp2_with fail;apply qR i;rintro x⟨r,o⟩;have g:=Z<|d.trans o;have k:=Z r;go_wp2_with fail;apply qS<|ud (af ([]:YV)).k x;rw[show rL (eP (af ([]:YV)).k)=.tuple #[qI 0,.bool false]from rfl];go_wp2;go_ret;exact gB.none_ u g k
 |some y=>
  obtain⟨x,r⟩:=y;rw[hq]at E;obtain⟨(t:Ze _),R⟩:=E;have D:=Z<|fO 44 (by decide) rb T r n b N R;by_cases g:(af r).k=44
  .have u:Ze<|fD c j=jJ x r.tail:=by rw[Ze,fD,hq];simp only;rw[g];rfl
   have i:=nE g;rw[i,(eg (b:=b) i).2.2.2]at D;go_wp2_with fail;apply qR D;rintro A⟨p,d⟩;have k:=Z<|h.trans d;go_wp2_with apply(Z<|LC b p<|t.d d).mono;rintro e B⟨l,z,rfl,o⟩;go_wp2;go_ret;exact⟨k.trans l,z,rfl,by rw[u];exact o⟩
  have C:=nN g;rw[C,(fC (b:=b) C).2.2.2]at D;go_wp2_with fail;apply qR D;rintro Y⟨I,z⟩;go_wp2_with fail;apply qR<|Z<|uG b I;rintro U⟨J,A⟩;have k:=Z<|(Z<|h.trans z).trans A;have u:=Z<|(Z<|t.d z).d A;have i:=Z J;go_wp2_with fail;apply qS<|ud (af r).k U;cases ho:eP (af r).k with
  |none=>
   have d:Ze<|fD c j=some (x,r):=by rw[Ze,fD,hq];simp only;rw[ho];simp only;rw[VF g]
   rw[show rL none=.tuple #[qI 0,.bool false]from rfl];go_wp2;go_ret;exact gB.some_ d k u i
  |some o=>
   have K:Ze<|fD c j=match c r.tail with|none=>none|some (y,M)=>some (kL o x y,M):=by rw[Ze,fD,hq];simp only;rw[ho];rfl
   rw[show rL (some o)=.tuple #[qI (o:Nat),.bool true]from rfl];have H:r≠[]:=λe=>by rw[e]at ho;cases ho
   obtain⟨p,c1,W,Q,rfl,(G:Ze _)⟩:=i.next H;have S:=i.lt;go_wp2_with apply(q rb T r.tail false _ G).mono;rintro e w6⟨B,V,rfl,(F:Ze _)⟩;have l:=Z<|(k.set 1<|qI<|(p:Int)+1).trans B;go_wp2;go_ret;have d:=F.o;cases hv:c r.tail with
   |none=>
    rw[hv]at d;exact gB.none_ (by rw[K,hv]) (l.alloc _)<|d.alloc _
   |some y=>
    obtain⟨y,M⟩:=y;rw[hv]at d;exact gB.some_ (by rw[K,hv]) (l.alloc _) (cE.two d.2.lt o x y _ _ (aM _ _) ((Z<|u.d<|((aH.refl _ _).set 1<|qI<|(p:Int)+1).trans B).d<|(aH.refl _ _).alloc _)<|d.1.d<|(aH.refl _ _).alloc _)<|d.2.alloc _
def NJ(d:n<=20){v:dU}(a:cI v.signed/\cI v.prod/\cI v.c/\cI v.both)
 (H:n<20->CQ 154 (n+1) v.val/\CQ 250 (n+1) v.no/\CQ 333 (n+1) v.a)
 (c:n=20->(∀b,v.val b=none)/\(∀b,v.no b=none)/\(∀b,v.a b=none)):
 CQ 154 n v.value/\CQ 250 n v.c/\CQ 333 n v.signed:=by
 have i:=QA v<|KW d v.val (λh=>(H h).1) λh=>(c h).1;have e:=Qz d v (λh=>(H h).2.2) (λh=>(c h).2.2) i;have j:CQ 331 n v.prod:=Ok a.1 e;have k:CQ 315 n v.sum:=Vo a.2.1 j;have l:CQ 284 n v.comp:=FA k;have g:=VB d v (λh=>(H h).2.1) (λh=>(c h).2.1) l;have o:CQ 210 n v.both:=TK a.2.2.1 g;have p:CQ 154 n v.value:=S5 a.2.2.2 o;exact⟨p,g,e⟩
def Kh:∀(k d:Nat),d+k=20->CQ 154 d (iw k).value/\CQ 250 d (iw k).c/\CQ 333 d (iw k).signed
 |0,d,h=>by have hs:=pL 0;exact NJ (by omega) ⟨hs.2.2.2.2.1,hs.2.2.2.2.2.1,hs.2.2.2.2.2.2.2.2.1,hs.2.2.2.2.2.2.2.2.2.1⟩ (λh=>by omega) λ_=>⟨λ_=>rfl,λ_=>rfl,λ_=>rfl⟩
 |k+1,d,h=>by have hs:=pL<|k+1;exact NJ (by omega) ⟨hs.2.2.2.2.1,hs.2.2.2.2.2.1,hs.2.2.2.2.2.2.2.2.1,hs.2.2.2.2.2.2.2.2.2.1⟩ (λ_=>Kh k (d+1)<|by omega) λh=>by omega
def pF:CQ 154 0<|eo 20:=(Kh 20 0 rfl).1
def rG(w:Za)(rb:Nat)(sh:ay->Zb->Y0):Y3->Y0->Prop
 |[],cs=>cs=[]
 |it::aN,cs=>∃(a:Y8) (rest:Y0),cs=sh it (.pointer a)++rest/\cE w rb it.aW (.pointer a)/\rG w rb sh aN rest
def rG.snoc{e:ay->Zb->Y0}{d:ay}{a:Y8}(g:cE w n d.aW<|.pointer a):∀{aN:Y3}{c:Y0},rG w n e aN c->rG w n e (aN++[d]) (c++e d (.pointer a))
 |[],c,h=>by have:c=[]:=h;subst this;exact⟨a,[],by simp,g,rfl⟩
 |j::aN,c,⟨b,rest,hc,ht,hr⟩=>⟨b,rest++e d (.pointer a),by rw[hc];simp,ht,rG.snoc g hr⟩
def rG.mono{d:ay->Zb->Y0}(c:∀(t:aA)(v:Zb),cE w n t v->cE W n t v):∀{aN:Y3}{a:Y0},rG w n d aN a->rG W n d aN a
 |[],_,h=>h
 |_::_,_,⟨b,rest,hc,ht,hr⟩=>⟨b,rest,hc,c _ _ ht,rG.mono c hr⟩
def cE.grown{g:Option Nat}(j:w.grownBy W g)(b:∀k,g=some k->∃d e,w.heap[k]?=some (.cells d e (0,0))/\e≠269):∀{t:aA}{v:Zb},cE w i t v->cE W i t v
 |.nil,_,h=>h
 | .node _ _ a l r,v,⟨n,vl,vr,hv,hn,hb,hl,hr⟩=>⟨n,vl,vr,hv,hn,by
  rw [j.block n (lB hb) (λe=>by
   obtain⟨d,o,c,h⟩:=b n e.symm;rw[hb]at c;injection c with c;injection c with _ c _
   exact h c.symm),hb],cE.grown j b hl,cE.grown j b hr⟩
def iY(w:Za)(rb base:Nat)(e:Zf)(size:Nat)(sh:ay->Zb->Y0)(aN:Y3)(v:Zb):Prop:=∃cs,w.ownsRow base e size v aN.length cs/\rG w rb sh aN cs
def iY.d{e:Zf}{c:ay->Zb->Y0}{a:Y3}{v:Zb}(b:aH n w W)(l:n<k)(h:iY w n k e i c a v):iY W n k e i c a v:=by obtain⟨d,g,j⟩:=h;exact⟨d,dM b l g,j.mono λt v=>cE.d b⟩
def RC.grown{T:YV}{a:Option Nat}(h:RC w n T D i b)(l:w.grownBy W a)(o:∀k,a=some k->n<k):RC W n T D i b:=by
 obtain⟨v,p,j,r,t,u,x,d⟩:=h;refine⟨v,p,by rw[l.block n (lB j) (λe=>by have:=o n e.symm;omega)];exact j,r,t,u,x,?_⟩;obtain d|⟨g,cap,c,y,z,q,A⟩:=d
 .exact .inl d
 exact .inr ⟨g,cap,c,y,z,by rw[l.block g (lB q) (λe=>by have:=o g e.symm;omega)];exact q,A⟩
def RC.len{T:YV}(h:RC w n T D k b):D.length<=1048576:=by have c:=h.drop.2;obtain⟨v,p,_,_,_,_,a⟩:=h;have:=a.1;omega
def Ol{g:Za}{T:YV}{e:Zf}{v:Zb}{r C:Y0}{t:Zf}(z:e≠269)(A:i<w.heap.size)(p:aH i w W)(a:W.ownsRow w.heap.size e j v n r)
 (o:(W.alloc<|.cells C.toArray t).grownBy g v.ownBlock):aH i w g/\(∀q d b,RC W i T q d b->RC g i T q d b)/\(∀t v,cE W i t v->cE g i t v):=by
 have c:∀k,v.ownBlock=some k->w.heap.size<=k:=λk e=>(a.lt k e).1;refine⟨(p.alloc _).grown o c,λq d b h=>(h.alloc _).grown o (λk e=>by have:=c k e;omega),λx u h=>?_⟩;refine cE.grown o (λk p=>?_)<|h.d<|(aH.refl i W).alloc _;obtain⟨l,y⟩:=xu (a.alloc<|.cells C.toArray t) k p;exact⟨l,_,y,z⟩
def To(val:ay->Zb->Zb)(w:Za)(rb:Nat)(T:YV)(d:Nat)(b:Bool)(spec:Option<|ay×YV)(e:Zg)(w':Za):Prop:=
 aH rb w w'/\∃(it:ay) (a:Y8),e=.returned (val it<|.pointer a)/\match spec with
  |some (x,r)=>it=x/\cE w' rb x.aW (.pointer a)/\RC w' rb T r d b
  |none=>RC w' rb T [] d true
def CO(val:ay->Zb->Zb)(f:FuncId)(p:h_):Prop:=∀rb T ts b w,RC w rb T ts 0 b->Zc prog f #[qP rb] w (To val w rb T 0 b<|p ts)
def vT(e:Zf)(size:Nat)(sh:ay->Zb->Y0)(w:Za)(rb:Nat)(T:YV)(d:Nat)(b:Bool)(spec:Option<|Y3×YV)(en:Zg)(w':Za):Prop:=
 aH rb w w'/\∃(a:Y8) (n c:Nat),en=.returned (.slice a n c)/\match spec with
  |some (aN,r)=>iY w' rb w.heap.size e size sh aN (.slice a n c)/\RC w' rb T r d b
  |none=>RC w' rb T [] d true
def Mv(w wr:Za)(rb:Nat)(T:YV)(b:Bool)(e:Zf)(size:Nat)(sh:ay->Zb->Y0)(p:h_)(sp:Option<|Y3×YV)(g n:Nat)(v:Zb)(cs:Y0):Prop:=
 aH rb w wr/\wr.ownsRow w.heap.size e size v n cs/\((∃aN r,n=aN.length/\r.length<g/\aN.length+r.length<=1048577/\rG wr rb sh aN cs/\RC wr rb T r 0 b/\(if (af r).k=9 then dW p (r.tail.length+1) aN r.tail else some (aN,r))=sp)\/(0<g/\n<=1048577/\RC wr rb T [] 0 true/\sp=none))
def Ks(b:Za)(n a:Nat)(C:Y0){t:Zf}(d:k<=b.heap.size)(e:n<=Zj)(c:C.length=n*a):(b.alloc<|.cells C.toArray t).ownsRow k t a (qL b.heap.size n n) n C:=
 ⟨c,.inr ⟨b.heap.size,n,C.toArray,rfl,d,aM _ _,qZ,e,by simpa using c,by rw[<-c];simp⟩⟩
def NT{p:h_}(b:lN p){a:Y3}{x:ay}(h:p D=some (x,E)):dW p (D.length+1) a D=if (af E).k=9 then dW p (E.tail.length+1) (a++[x]) E.tail else some (a++[x],E):=by
 split
 .exact(l3 b h ‹_›).1
 exact mS h ‹_›
def Bi{w1:Za}{T:YV}{e:Zf}{sh:ay->Zb->Y0}{p:h_}{z:Option (Y3×YV)}{c:Y3}{j:Y0}{it:ay}{a:Y8}(o:lN p)(F:aH n w W)
 (l:∀A d b,RC w1 n T A d b->RC W n T A d b)(q:∀t v,cE w1 n t v->cE W n t v)(E:rG w1 n sh c j)(G:c.length+D.length<=1048576)(g:W.ownsRow w.heap.size e k u (c.length+1)<|j++sh it (.pointer a))
 (i:match p D with
  |some (x,r)=>it=x/\cE w1 n x.aW (.pointer a)/\RC w1 n T r 0 b
  |none=>RC w1 n T [] 0 true) (h:dW p (D.length+1) c D=z):Mv w W n T b e k sh p z (D.length+1) (c.length+1) u<|j++sh it (.pointer a):=by
 refine⟨F,g,?_⟩;cases hq:p D with
 |none=>
  rw[hq]at i;refine .inr ⟨by omega,by omega,l _ _ _ i,?_⟩;rw[<-h];exact ko hq
 |some y=>
  obtain⟨x,r⟩:=y;rw[hq]at i;obtain⟨rfl,B,C⟩:=i;have:=o _ _ _ hq;refine .inl ⟨c++[it],r,by simp,by omega,by simp;omega,(E.mono q).snoc<|q _ _ B,l _ _ _ C,?_⟩;rw[<-h,NT o hq]
def QP(_:ay)(v:Zb):Zb:=v
def Qy(_:ay)(v:Zb):Y0:=[v]
def Ui:CO QP 154 dc:=by
 intro rb T c b w d;apply(pF rb T c b w d).mono;rintro e g⟨hk,v,rfl,a⟩;unfold dc;cases hq:eo 20 c with
 |none=>rw[hq]at a;exact⟨hk,⟨[],[],0,.nil,false⟩,v,rfl,a⟩
 |some y=>
  obtain⟨x,r⟩:=y;rw[hq]at a;exact⟨hk,⟨[],[],0,x,false⟩,v,rfl,rfl,a.1,a.2⟩
def Sb:(prog.info? 199).map (λi=>(i.zero,i.size,i.bytes))=some (some<|.pointer none,1,8):=by kernel_rfl
def Pe(ts:YV):Option<|YV:=match gP (af ts).k with
 |some _=>some ts.tail
 |none=>none
def KK(ts:YV):Int:=(gP (af ts).k).getD 0
def Fx{T:YV}(b:Bool)(H:RC w n T D k b):
 Zc prog 209 #[qP n] w λe G=>e=.returned (qI<|KK D)/\QY G n T (Pe D) k b/\aH n w G:=by
 have c:=Z H;have a:=Z<|aH.refl n w;by_cases d:(af D).k=48
 .have r:Ze<|KK D=1/\Pe D=some D.tail:=by rw[Ze,KK,Pe,d];exact⟨rfl,rfl⟩
  have h:=nE d;go_in;have o:=Z<|fO 48 (by decide) n T D k b w c;rw[h,(eg (b:=b) h).2.2.2]at o;go_wp2_with fail;apply qR o;rintro t⟨q,p⟩;have l:=Z q;have i:=Z<|a.trans p;go_wp2;go_ret;exact⟨fQ r.1.symm,by rw[r.2];exact l,i⟩
 by_cases g:(af D).k=49
 .have y:Ze<|KK D=2/\Pe D=some D.tail:=by rw[Ze,KK,Pe,g];exact⟨rfl,rfl⟩
  have h:=nN d;have i:=nE g;go_in;have u:=Z<|fO 48 (by decide) n T D k b w c;rw[h,(fC (b:=b) h).2.2.2]at u;go_wp2_with fail;apply qR u;rintro z⟨o,l⟩;have r:=Z o;have p:=Z<|a.trans l;have x:=Z<|fO 49 (by decide) n T D k b z r;rw[i,(eg (b:=b) i).2.2.2]at x;go_wp2_with fail;apply qR x;rintro A⟨o,l⟩;have t:=Z o;have q:=Z<|p.trans l;go_wp2;go_ret;exact⟨fQ y.1.symm,by rw[y.2];exact t,q⟩
 by_cases j:(af D).k=50
 .have C:Ze<|KK D=3/\Pe D=some D.tail:=by rw[Ze,KK,Pe,j];exact⟨rfl,rfl⟩
  have l:=nN d;have o:=nN g;have p:=nE j;go_in;have z:=Z<|fO 48 (by decide) n T D k b w c;rw[l,(fC (b:=b) l).2.2.2]at z;go_wp2_with fail;apply qR z;rintro E⟨i,h⟩;have u:=Z i;have q:=Z<|a.trans h;have A:=Z<|fO 49 (by decide) n T D k b E u;rw[o,(fC (b:=b) o).2.2.2]at A;go_wp2_with fail;apply qR A;rintro F⟨i,h⟩;have x:=Z i;have r:=Z<|q.trans h;have B:=Z<|fO 50 (by decide) n T D k b F x;rw[p,(eg (b:=b) p).2.2.2]at B;go_wp2_with fail;apply qR B;rintro I⟨i,h⟩;have y:=Z i;have t:=Z<|r.trans h;go_wp2;go_ret;exact⟨fQ C.1.symm,by rw[C.2];exact y,t⟩
 ·have F:Ze<|KK D=0/\Pe D=none:=by
   have e:gP (af D).k=none:=by rw[gP,VF d,VF g,VF j]
   rw[Ze,KK,Pe,e];exact⟨rfl,rfl⟩
  have l:=nN d;have o:=nN g;have p:=nN j;go_in;have z:=Z<|fO 48 (by decide) n T D k b w c;rw[l,(fC (b:=b) l).2.2.2]at z;go_wp2_with fail;apply qR z;rintro I⟨i,h⟩;have u:=Z i;have q:=Z<|a.trans h;have A:=Z<|fO 49 (by decide) n T D k b I u;rw[o,(fC (b:=b) o).2.2.2]at A;go_wp2_with fail;apply qR A;rintro J⟨i,h⟩;have x:=Z i;have r:=Z<|q.trans h;have B:=Z<|fO 50 (by decide) n T D k b J x;rw[p,(fC (b:=b) p).2.2.2]at B;go_wp2_with fail;apply qR B;rintro K⟨i,h⟩;have y:=Z i;have t:=Z<|r.trans h;go_wp2_with fail;apply qR<|A0 b y;rintro L⟨E,C⟩;go_wp2;go_ret;exact⟨fQ F.1.symm,by rw[F.2];exact E,t.trans C⟩
def QM(it:ay)(_:Zb):Zb:=.agg #[qT it.name,qI it.type]
def SL(it:ay)(_:Zb):Y0:=[qT it.name,qI it.type]
def QO(it:ay)(v:Zb):Zb:=.agg #[qT it.name,v]
def Tj(it:ay)(v:Zb):Y0:=[qT it.name,v]
def QN(it:ay)(v:Zb):Zb:=.agg #[v,.bool it.eC]
def Qx(it:ay)(v:Zb):Y0:=[v,.bool it.eC]
def cE.setOther{C:Y_}{e:Zf}(b:w.heap[k]?=some (.cells C e))(c:e≠269)(o:Nat)(x:Zb):∀{t:aA}{v:Zb},cE w i t v->cE (w.setCell ⟨k,o,none⟩ x) i t v
 |.nil,_,h=>h
 | .node _ _ a l r,v,⟨n,vl,vr,hv,hn,hb,hl,hr⟩=>⟨n,vl,vr,hv,hn,bY hb (λd=>by
  subst d;rw[hb]at b;injection b with b;injection b with _ b _
  exact c b.symm) _ _,cE.setOther b c o x hl,cE.setOther b c o x hr⟩
def Rv{T:YV}{C:Y_}{e:Zf}(i:n<w.heap.size)(j:aH n w W)(a:W.heap[w.heap.size]?=some (.cells C e))(g:e≠269)(x y:Zb):
 aH n w ((W.setCell ⟨w.heap.size,0,none⟩ x).setCell ⟨w.heap.size,1,none⟩ y)/\(∀c d b,RC W n T c d b->RC ((W.setCell ⟨w.heap.size,0,none⟩ x).setCell ⟨w.heap.size,1,none⟩ y) n T c d b)/\(∀t v,cE W n t v->cE ((W.setCell ⟨w.heap.size,0,none⟩ x).setCell ⟨w.heap.size,1,none⟩ y) n t v):=by
 refine⟨(j.l qZ _).l qZ _,λc d b h=>(h.l i _ _).l i _ _,λt v h=>?_⟩;exact(h.setOther a g 0 x).setOther (bS a 0 x) g 1 y
def ME{T:YV}(h:RC w n T D k true):D=[]:=by obtain⟨v,p,_,_,_,a,_⟩:=h;exact a rfl
def Vh:CO QM 152 dL:=by
 intro rb T c b w r;have u:=Z<|uA b<|r.alloc<|.cells #[.string {data:=#[]},qI 0] 97;have A:=r.lt;go_in;go_wp2_with fail;apply qR u;rintro G⟨n,k⟩;have t:=Z<|Fx (bx c 1 b) n;have h:=Z k;go_wp2_with fail;apply qR t;rintro C⟨(i:Ze _),l⟩;have d:=h.trans l;have a:=d.q (by omega)<|aM w<|.cells #[.string {data:=#[]},qI 0] 97;have o:=bC a 0;have p:=bC a 1;have D:=bF a;have B:=lB a;simp at o p;go_wp2_with refine VI (v:=.agg #[.string ⟨(jL c 1).s.toArray⟩,qI<|KK<|nx c 1]) ?_ rfl ?_
 .simp[Zh,results152,go_sem,o,p]
 obtain⟨z,j,E⟩:=(Z<|Rv (T:=T) A (((aH.refl rb w).alloc<|.cells #[.string {data:=#[]},qI 0] 97).trans d) a<|by decide).o (.string ⟨(jL c 1).s.toArray⟩)<|qI<|KK<|nx c 1;refine⟨z,⟨(jL c 1).s,[],KK<|nx c 1,.nil,false⟩,none,rfl,?_⟩;have e:=i.o;generalize F:(C.setCell ⟨w.heap.size,0,none⟩<|.string ⟨(jL c 1).s.toArray⟩).setCell ⟨w.heap.size,1,none⟩ (qI<|KK<|nx c 1)=W at*;by_cases g:(af c).k=1
 .obtain⟨q,x,y,_⟩:=eg (b:=b)<|nE g;rw[q,x]at e;rw[q,y];unfold dL;rw[VG g];unfold Pe at e;unfold KK;cases ht:gP (af c.tail).k with
  |none=>rw[ht]at e;exact j _ _ _ e
  |some ty=>rw[ht]at e;exact⟨rfl,rfl,j _ _ _ e⟩
 obtain⟨q,x,y,_⟩:=fC (b:=b)<|nN g;rw[q,x]at e;unfold dL;rw[VF g];exact j _ _ _ e
def Vi:CO QO 157 fh:=by
 intro rb T d b w J;have S:=J.lt;go_in;go_wp2_with fail;refine qR (Z<|uA b<|J.alloc<|.cells #[.string {data:=#[]},.pointer none] 259) ?_;rintro L⟨o,C⟩;have U:=o.lt;have O:=Z<|mT [12] 1 rfl (by decide) (by decide) L.heap.size 1 (bx d 1 b) (o.alloc<|.cells #[qI 12] 129) (gM L [12] _ rfl) (by omega);have q:=Z C;go_wp2_with fail;apply qR O;rintro M⟨c,D⟩;have t:=Z<|(q.alloc<|.cells #[qI 12] 129).trans D;have P:Ze (∃h l,RC M rb T h 0 l/\((l=b/\(af d).k=1/\(af d.tail).k=12/\h=d.tail.tail)\/(l=true/\h=[]/\fh d=none))):=by
  rw[pf]at c;by_cases n:(af d).k=1
  .obtain⟨r,x,y,_⟩:=eg (b:=b)<|nE n;rw[r,x]at c;by_cases i:(af d.tail).k=12
   .rw[VG i]at c;exact⟨_,b,c,.inl ⟨rfl,n,i,rfl⟩⟩
   rw[VF i]at c;exact⟨[],true,c,.inr ⟨rfl,rfl,by rw[fh,VG n,VF i]⟩⟩
  obtain⟨i,r,x,_⟩:=fC (b:=b)<|nN n;rw[i,r,VF<|by decide]at c;exact⟨[],true,c,.inr ⟨rfl,rfl,by rw[fh,VF n]⟩⟩
 obtain⟨h,l,G,k⟩:=P.o;have p:=Z k;have Q:=Z<|pF rb T h l M G;go_wp2_with refine Q.mono ?_;rintro e N⟨E,a,rfl,(u:Ze _)⟩;have j:=t.trans E;have g:=j.q (by omega)<|aM w<|.cells #[.string {data:=#[]},.pointer none] 259;have H:=bC g 0;have I:=bC g 1;have X:=bF g;have V:=lB g;simp at H I;go_wp2_with fail;refine VI (v:=.agg #[.string ⟨(jL d 1).s.toArray⟩,.pointer a]) ?_ rfl ?_
 .simp[Zh,results157,go_sem,H,I]
 obtain⟨z,B,R⟩:=(Z<|Rv (T:=T) S (((aH.refl rb w).alloc<|.cells #[.string {data:=#[]},.pointer none] 259).trans j) g<|by decide).o (.string ⟨(jL d 1).s.toArray⟩)<|.pointer a;have i:=u.o;generalize hW:(N.setCell ⟨w.heap.size,0,none⟩<|.string ⟨(jL d 1).s.toArray⟩).setCell ⟨w.heap.size,1,none⟩ (.pointer a)=W at*;obtain⟨rfl,K,A,rfl⟩|⟨rfl,rfl,F⟩:=p.o
 .obtain⟨Y,e2,n,_⟩:=eg (b:=l)<|nE K;rw[n];unfold fh;rw[VG K,VG A];cases hv:eo 20 d.tail.tail with
  |none=>rw[hv]at i;exact⟨z,⟨(af d).s,[],0,.nil,false⟩,a,rfl,B _ _ _ i⟩
  |some y=>
   obtain⟨x,r⟩:=y;rw[hv]at i;exact⟨z,⟨(af d).s,[],0,x,false⟩,a,rfl,rfl,R _ _ i.1,B _ _ _ i.2⟩
 rw[F];refine⟨z,⟨(jL d 1).s,[],0,.nil,false⟩,a,rfl,?_⟩;have n:RC N rb T [] 0 true:=by
  cases hv:eo 20 []with
  |none=>rw[hv]at i;exact i
  |some y=>
   rw[hv]at i;have:=ME i.2;have r:=i.2;rw[this]at r;exact r
 exact B _ _ _ n
def Uh:CO QN 214 gd:=by
 intro rb T q b w H;have M:=H.lt;go_in;go_wp2_with refine(Z<|pF rb T q b _<|H.alloc<|.cells #[.pointer none,.bool false] 328).mono ?_;rintro e E⟨B,a,rfl,g⟩;have u:=Z B;have I:Ze (∃c k,RC E rb T c 0 k/\((k=b/\∃x,eo 20 q=some (x,c)/\cE E rb x (.pointer a))\/(k=true/\c=[]/\eo 20 q=none))):=by
  cases hv:eo 20 q with
  |none=>rw[hv]at g;exact⟨[],true,g,.inr ⟨rfl,rfl,rfl⟩⟩
  |some y=>
   obtain⟨x,r⟩:=y;rw[hv]at g;exact⟨r,b,g.2,.inl ⟨rfl,x,rfl,g.1⟩⟩
 obtain⟨c,k,D,l⟩:=I.o;have t:=Z l;have J:=Z<|fO 38 (by decide) rb T c 0 k E D;go_wp2_with fail;apply qR J;rintro O⟨(z:Ze _),(n:Ze _)⟩;have j:=u.trans n;have d:=j.q (by omega)<|aM w<|.cells #[.pointer none,.bool false] 328;have F:=bC d 0;have G:=bC d 1;have P:=bF d;have N:=lB d;simp at F G;go_wp2_with refine VI (v:=.agg #[.pointer a,.bool<|hk c 38]) ?_ rfl ?_
 .simp[Zh,results214,go_sem,F,G]
 obtain⟨r,y,K⟩:=(Z<|Rv (T:=T) M (((aH.refl rb w).alloc<|.cells #[.pointer none,.bool false] 328).trans j) d<|by decide).o (.pointer a)<|.bool<|hk c 38;have o:=z.o;generalize Q:(O.setCell ⟨w.heap.size,0,none⟩<|.pointer a).setCell ⟨w.heap.size,1,none⟩ (.bool<|hk c 38)=W at*;unfold gd;obtain⟨rfl,x,L,A⟩|⟨rfl,rfl,C⟩:=t.o
 .rw[L];simp only;have i:=K _ _<|A.d n;by_cases h:(af c).k=38
  .have p:=nE h;rw[(eg (b:=k) p).2.2.2]at o;rw[p,VG h];exact⟨r,⟨[],[],0,x,true⟩,a,rfl,rfl,i,y _ _ _ o⟩
  have p:=nN h;rw[(fC (b:=k) p).2.2.2]at o;rw[p,VF h];exact⟨r,⟨[],[],0,x,false⟩,a,rfl,rfl,i,y _ _ _ o⟩
 rw[C];exact⟨r,⟨[],[],0,.nil,false⟩,a,rfl,y _ _ _ o⟩
def IG:(prog.info? 97).map (λi=>(i.zero,i.size,i.bytes))=some (some<|.agg #[.string {data:=#[]},qI 0],2,24):=by kernel_rfl
def FV:(prog.info? 259).map (λi=>(i.zero,i.size,i.bytes))=some (some<|.agg #[.string {data:=#[]},.pointer none],2,24):=by kernel_rfl
def Ln:(prog.info? 328).map (λi=>(i.zero,i.size,i.bytes))=some (some<|.agg #[.pointer none,.bool false],2,16):=by kernel_rfl
def Cr{α:Type}(_:α):Prop:=True
abbrev cr{α:Type}{a:α}(_:Cr a):α:=a
def Ki{F:FuncId}{S E:Zf}{m:Nat}{G:ay->Zb->Y0}{l:ay->Zb->Zb}(O:(prog.info? E).map (λi=>(i.zero,i.size,i.bytes))=some (some z,m,k))(aq:z.cells.size=m)(Q: prog.underlying S=some (.slice E))(hF:F=153/\S=192/\E=199/\m=1/\k=8/\G=Qy/\l=QP\/F=151/\S=92/\E=97/\m=2/\k=24/\G=SL/\l=QM\/F=156/\S=211/\E=259/\m=2/\k=24/\G=Tj/\l=QO\/F=213/\S=227/\E=328/\m=2/\k=16/\G=Qx/\l=QN)(f:FuncId)(ai:UX f)(p:h_)(hs:lN p)(HP:CO l f p)(j:Nat)(T B:YV)(b:Bool)(w:Za)(hR:RC w j T B 0 b):
 Zc prog F #[qP j,.func (.func f) #[qP j] #[]] w (vT E m G w j T 0 b<|bR p B):=by
 have hE:Cr E:=trivial;have D:Cr m:=trivial;have c:Cr G:=trivial;have ar:∀(a:Y_) (w:Za),(Zi f a).run prog w=.ok (.enter f a) w:=ai;obtain⟨i0,hi,ao,U,ap⟩:=V5 O;have L:=Z HP;have HR:=Z hR;have HS:=Z hs;have hz:=hR.lt;generalize an:bR p B=sp;have ah:=Z an;obtain⟨rfl,rfl,rfl,rfl,rfl,rfl,rfl⟩|⟨rfl,rfl,rfl,rfl,rfl,rfl,rfl⟩|⟨rfl,rfl,rfl,rfl,rfl,rfl,rfl⟩|⟨rfl,rfl,rfl,rfl,rfl,rfl,rfl⟩:=hF;all_goals
  first
   |go_in
   |go_in
   |go_in
   |go_in
  go_wp2_with apply(L j T B b w HR).mono;rintro e V⟨ak,it,a,rfl,hp⟩;have J:=Z ak;have ad:=Z hp;simp only[QP,QM,QO,QN];have HL:Ze<|Mv w (V.alloc<|.cells (cr c it<|.pointer a).toArray<|cr hE) j T b (cr hE) (cr D) (cr c) p sp (B.length+1) 1 (qL V.heap.size 1 1)<|[]++cr c it (.pointer a):=by have U:=J.size;refine Bi (w1:=V) HS (J.alloc _) (λB d b h=>h.alloc _) (λt v h=>h.d<|(aH.refl _ _).alloc _) (show rG V j (cr c) [] []from rfl) ?_ (Ks V 1 _ (cr c it<|.pointer a) (by omega) (by decide) rfl) ad ah;simpa using hR.len
  go_wp2
  go_loopg [5] (B.length+1) (λg x wr=>∃n cs,Ze<|Mv w wr j T b (cr hE) (cr D) (cr c) p sp g n x cs)
  exact⟨1,_,HL⟩
  case round=>
   obtain⟨n,cs,HI⟩:=hrel;obtain⟨(W:Ze _),d,hi⟩:=HI.o;have ax:=W.size;obtain⟨va,vn,vc,rfl⟩:=aF d;obtain⟨aN,r,rfl,hg,hb,hit,hr,D⟩|⟨hg,hn,hr,D⟩:=hi
   .have H:=Z hit;have HM:=Z D;have X:=Z<|fO 9 (by decide) j T r 0 b wr hr;have az:=hr.lt;by_cases M:(af r).k=9
    .have R:=nE M;rw[R,(eg (b:=b) R).2.2.2]at X;have ab:Ze<|dW p (r.tail.length+1) aN r.tail=sp:=by rw[Ze,<-HM,VG M]
     have aw:=fV (by decide) M;have HO:=Z d;go_wp2_with fail;apply qR X;rintro w2⟨am,q⟩;have ag:=Z am;have aa:=Z<|W.trans q;have I:=Z<|H.mono λt v=>cE.d q;have ac:=Z<|dM q hz HO;go_wp2_with apply(L j T r.tail b w2 ag).mono;rintro e w3⟨y,o,Y,rfl,(ae:Ze _)⟩;have K:=Z<|aa.trans y;have h:=dM y hz ac;have av:=K.size;simp only[QP,QM,QO,QN];go_wp2_with (at_builtin;refine VS _ rfl (.tmp 11) (.tmp 14) _ rfl w.heap.size _ i0 _ _ _ Q hi ao U ap aq (by decide) _ _ _ rfl (h.alloc _) ⟨w3.heap.size,0,none⟩ 1 1 (cr c o<|.pointer Y) rfl rfl ?c1 ?c2 ?c3 ?c4 ?c5 ?_)
     case c1=>exact cW w3 (cr c o<|.pointer Y)<|cr hE
     case c2=>intro u Q;simp[cr,Qy,SL,Tj,Qx]at Q;first|(subst Q;rfl)|(obtain rfl|rfl:=Q<;>rfl)
     case c3=>unfold Zj;omega
     case c4=>omega
     case c5=>simp;omega
     intro v' w4 A aj au;obtain⟨al,P,N⟩:=Ol (T:=T) (C:=(cr c o<|.pointer Y)) (by simp[cr]) hz K h aj;go_wp2
     go_roundg (r.tail.length+1)
     case measure=>omega
     exact⟨_,_,Z<|Bi (w1:=w3) (sh:=(cr c)) (it:=o) (a:=Y) HS al P N (Z<|I.mono λt v=>cE.d y) (by omega) A ae ab⟩
    have o:=nN M;rw[o,(fC (b:=b) o).2.2.2]at X;have A:Ze<|sp=some (aN,r):=by rw[Ze,<-HM,VF M]
    have I:=Z d;go_wp2_with fail;apply qR X;rintro K⟨y,h⟩;have u:=Z y;have q:=Z<|W.trans h;go_wp2;go_ret;exact⟨q,va,vn,vc,rfl,by rw[A];exact⟨⟨cs,Z<|dM h hz I,Z<|H.mono λt v=>cE.d h⟩,u⟩⟩
   have t:=Z<|fO 9 (by decide) j T [] 0 true wr hr;rw[show hk ([]:YV) 9=false from rfl,show tl [] 9=[]from rfl]at t;have u:=Z D;go_wp2_with fail;apply qR t;rintro y⟨q,o⟩;have h:=Z q;go_wp2;go_ret;exact⟨Z<|W.trans o,va,vn,vc,rfl,by rw[u];exact h⟩
def Q7:=Ki Sb rfl underlying192<|.inl ⟨rfl,rfl,rfl,rfl,rfl,rfl,rfl⟩
def Ua:=Ki IG rfl underlying92<|.inr<|.inl ⟨rfl,rfl,rfl,rfl,rfl,rfl,rfl⟩
def Ub:=Ki FV rfl underlying211<|.inr<|.inr<|.inl ⟨rfl,rfl,rfl,rfl,rfl,rfl,rfl⟩
def Q6:=Ki Ln rfl underlying227<|.inr<|.inr<|.inr ⟨rfl,rfl,rfl,rfl,rfl,rfl,rfl⟩
def JR:CQ 155 0 bX:=by
 intro rb T d b w o;have g:=Z<|fO 27 (by decide) rb T d 0 b w o;by_cases c:(af d).k=27
 .have l:=nE c;rw[l,(eg (b:=b) l).2.2.2]at g;have n:Ze<|bX d=eo 20 d.tail:=by rw[Ze,bX,VG c]
  go_in;go_wp2_with fail;apply qR g;rintro q⟨k,i⟩;have h:=Z i;go_wp2_with apply(Z<|pF rb T d.tail b q k).mono;rintro e r⟨j,a,rfl,p⟩;go_wp2;go_ret;exact⟨h.trans j,a,rfl,by rw[n];exact p⟩
 have i:=nN c;rw[i,(fC (b:=b) i).2.2.2]at g;have j:Ze<|bX d=some (.nil,d):=by rw[Ze,bX,VF c]
 go_in;go_wp2_with fail;apply qR g;rintro k⟨h,a⟩;go_wp2;go_ret;exact gB.some_ j a rfl h
def vT.d{e:Zf}{g:ay->Zb->Y0}{T:YV}{j:Option (Y3×YV)}{d:Zg}(h:vT e k g w i T 0 true j d W):vT e k g w i T 0 true none d W:=by
 obtain⟨hk,a,n,c,rfl,h⟩:=h;refine⟨hk,a,n,c,rfl,?_⟩;cases j with
 |none=>exact h
 |some y=>
  obtain⟨aN,r⟩:=y;have b:=h.2;rw[ME b]at b;exact b
def vT.base{e:Zf}{q:ay->Zb->Y0}{T:YV}{o:Option (Y3×YV)}{p:Zg}(d:aH i w W)(h:vT e k q W i T 0 b o p x):vT e k q w i T 0 b o p x:=by
 obtain⟨hk,a,n,c,rfl,h⟩:=h;refine⟨d.trans hk,a,n,c,rfl,?_⟩;cases o with
 |none=>exact h
 |some y=>
  obtain⟨aN,r⟩:=y;obtain⟨⟨t,⟨u,l⟩,z⟩,A⟩:=h;refine⟨⟨t,⟨u,?_⟩,z⟩,A⟩;obtain l|⟨g,cap,j,C,B,r⟩:=l
  .exact .inl l
  exact .inr ⟨g,cap,j,C,Wf d.size B,r⟩
def Qg{T:YV}(b:Bool)(F:RC w k T D 0 b):
 Zc prog 159 #[qP k] w (vT 328 2 Qx w k T 0 b<|eT D):=by
 have l:=Z<|fO 36 (by decide) k T D 0 b w F;by_cases d:(af D).k=36
 .have u:=nE d;rw[u,(eg (b:=b) u).2.2.2]at l;go_in;go_wp2_with fail;apply qR l;rintro x⟨j,p⟩;have H:=j.lt;have t:=Z<|mT [37] 1 rfl (by decide) (by decide) x.heap.size 1 b (j.alloc<|.cells #[qI 37] 129) (gM x [37] _ rfl) (by omega);rw[pf]at t;have o:=Z p;go_wp2_with fail;apply qR t;rintro y⟨h,q⟩;have i:=Z<|(o.alloc<|.cells #[qI 37] 129).trans q;by_cases g:(af D.tail).k=37
  .rw[VG g]at h;have B:Ze<|eT D=bR gd D.tail.tail:=by rw[Ze,eT,VG d,VG g]
   have z:=Z<|Q6 214 (λa w=>by go_simp) gd sD Uh k T D.tail.tail b y h;go_wp2_with refine z.mono ?_;intro e I C;have E:=C.base i;obtain⟨r,a,n,c,rfl,G⟩:=E;have A:=Z G;go_wp2;go_ret;exact⟨r,a,n,c,rfl,by rw[B];exact A⟩
  rw[VF g]at h;have A:Ze<|eT D=none:=by rw[Ze,eT,VG d,VF g]
  go_wp2_with apply(Z<|Q6 214 (λa w=>by go_simp) gd sD Uh k T [] true y h).mono;intro e E B;obtain⟨r,a,n,c,rfl,C⟩:=B.d.base i;have z:=Z C;go_wp2;go_ret;exact⟨r,a,n,c,rfl,by rw[A];exact z⟩
 .have g:=nN d;rw[g,(fC (b:=b) g).2.2.2]at l;have h:Ze<|eT D=some ([],D):=by rw[Ze,eT,VF d]
  go_in;go_wp2_with fail;apply qR l;rintro i⟨c,a⟩;go_wp2;go_ret;exact⟨a,none,0,0,rfl,by rw[h];exact⟨⟨[],VP _ _ _ _,rfl⟩,c⟩⟩
def Pk(w:Za)(rb:Nat)(T:YV)(b:Bool)(ts:YV)(e:Zg)(w':Za):Prop:=
 aH rb w w'/\∃l o:Int,e=.returned (.tuple #[qI l,qI o])/\match dR ts with
  |some (z,r)=>l=(if z.1=-1/\(af ts).k≠39 then 9223372036854775807 else z.1)/\o=z.2/\RC w' rb T r 0 b
  |none=>RC w' rb T [] 0 true
def So{T:YV}(b:Bool)(G:RC w n T D 0 b):
 Zc prog 160 #[qP n] w (Pk w n T b D):=by
 have l:=Z<|fO 39 (by decide) n T D 0 b w G;by_cases a:(af D).k=39
 .have F:=nE a;rw[F,(eg (b:=b) F).2.2.2]at l;go_in;go_wp2_with fail;apply qR l;rintro J⟨A,u⟩;have q:=Z u;go_wp2_with fail;apply qR<|Z<|En b A;rintro I⟨B,x⟩;have g:=Z<|q.trans x;have c:=Z<|fO 40 (by decide) n T (nx D.tail 2) 0 (bx D.tail 2 b) I B;by_cases k:(af D.tail).k=2
  .have H:=nE k;obtain⟨i,j,o,_⟩:=eg (b:=b) H;rw[i,j]at c;rw[o];by_cases e:(af D.tail.tail).k=40
   .have E:=nE e;rw[E,(eg (b:=b) E).2.2.2]at c;go_wp2_with fail;apply qR c;rintro K⟨C,y⟩;have r:=Z<|g.trans y;go_wp2_with fail;apply qR<|Z<|En b C;rintro L⟨(t:Ze _),z⟩;go_wp2_with fail;go_ret2;refine⟨Z<|r.trans z,_,_,rfl,?_⟩;have p:=t.o;unfold dR;rw[VG a,VG k,VG e];by_cases d:(af D.tail.tail.tail).k=2
    .obtain⟨i,j,o,_⟩:=eg (b:=b)<|nE d;rw[i,j]at p;rw[VG d];exact⟨by rw[VF λh=>h.2 a],by rw[o],p⟩
    obtain⟨i,j,o,_⟩:=fC (b:=b)<|nN d;rw[i,j]at p;rw[VF d];exact p
   have y:=nN e;rw[y,(fC (b:=b) y).2.2.2]at c;go_wp2_with fail;apply qR c;rintro z⟨t,r⟩;have p:=Z t;have d:=Z<|g.trans r;go_wp2_with fail;go_ret2;refine⟨d,_,_,rfl,?_⟩;unfold dR;rw[VG a,VG k,VF e];exact⟨by rw[VF λh=>h.2 a],rfl,p⟩
  have o:=nN k;obtain⟨i,j,p,_⟩:=fC (b:=b) o;rw[i,j,show hk ([]:YV) 40=false from rfl,show tl [] 40=[]from rfl]at c;go_wp2_with fail;apply qR c;rintro r⟨h,e⟩;have d:=Z h;go_wp2_with fail;go_ret2;refine⟨Z<|g.trans e,_,_,rfl,?_⟩;unfold dR;rw[VG a,VF k];exact d
 .have h:=nN a;rw[h,(fC (b:=b) h).2.2.2]at l;go_in;go_wp2_with fail;apply qR l;rintro i⟨g,e⟩;have d:=Z g;have c:=Z e;go_wp2_with fail;go_ret2;refine⟨c,_,_,rfl,?_⟩;unfold dR;rw[VF a];exact⟨by rw[VG ⟨rfl,a⟩],rfl,d⟩
def Mi(it:ay)(v:Zb):Zb:=.agg #[qT it.name,qT it.aY,.bool it.eC,v]
def EA(it:ay)(v:Zb):Y0:=[qT it.name,qT it.aY,.bool it.eC,v]
def Rw{T:YV}{C:Y_}{e:Zf}(g:n<w.heap.size)(j:aH n w W)(a:W.heap[w.heap.size]?=some (.cells C e))(c:e≠269)(x y z u:Zb):
 aH n w ((((W.setCell ⟨w.heap.size,0,none⟩ x).setCell ⟨w.heap.size,1,none⟩ y).setCell ⟨w.heap.size,2,none⟩ z).setCell ⟨w.heap.size,3,none⟩ u) /\
 (∀i d b,RC W n T i d b->RC ((((W.setCell ⟨w.heap.size,0,none⟩ x).setCell ⟨w.heap.size,1,none⟩ y).setCell ⟨w.heap.size,2,none⟩ z).setCell ⟨w.heap.size,3,none⟩ u) n T i d b) /\
 (∀t v,cE W n t v->cE ((((W.setCell ⟨w.heap.size,0,none⟩ x).setCell ⟨w.heap.size,1,none⟩ y).setCell ⟨w.heap.size,2,none⟩ z).setCell ⟨w.heap.size,3,none⟩ u) n t v):=by
 refine⟨(((j.l qZ _).l qZ _).l qZ _).l qZ _,λi d b h=>(((h.l g _ _).l g _ _).l g _ _).l g _ _,λt v h=>?_⟩;exact(((h.setOther a c 0 x).setOther (bS a 0 x) c 1 y).setOther (bS (bS a 0 x) 1 y) c 2 z).setOther (bS (bS (bS a 0 x) 1 y) 2 z) c 3 u
def Uj:CO Mi 211 cg:=by
 intro rb T a b w B;have D:=B.lt;go_in;go_wp2_with fail;refine qR (Z<|uA b<|B.alloc<|.cells #[.string {data:=#[]},.string {data:=#[]},.bool false,.pointer none] 324) ?_;rintro L⟨r,(h:Ze _)⟩;have j:=Z<|fO 32 (by decide) rb T (nx a 1) 0 (bx a 1 b) L r;by_cases c:(af<|nx a 1).k=32
 .have C:=nE c;rw[C,(eg (b:=bx a 1 b) C).2.2.2]at j;go_wp2_with fail;apply qR j;rintro Q⟨t,o⟩;go_wp2_with fail;apply qR<|Z<|uA (bx a 1 b) t;rintro M⟨(l:Ze _),p⟩;have g:=(Z<|h.trans o).trans p;have d:=g.q (by omega)<|aM w<|.cells #[.string {data:=#[]},.string {data:=#[]},.bool false,.pointer none] 324;have u:=bC d 0;have x:=bC d 1;have y:=bC d 2;have z:=bC d 3;have N:=bF d;have K:=lB d;simp at u x y z;have k:=Z<|Rw (T:=T) D (((aH.refl rb w).alloc<|.cells #[.string {data:=#[]},.string {data:=#[]},.bool false,.pointer none] 324).trans g) d (by decide);go_wp2_with fail;refine VI (v:=.agg #[.string ⟨(jL a 1).s.toArray⟩,.string ⟨(jL (nx a 1).tail 1).s.toArray⟩,.bool false,.pointer none]) ?_ rfl ?_
  .simp[Zh,results211,go_sem,u,x,y,z]
  obtain⟨J,A,O⟩:=k.o (.string ⟨(jL a 1).s.toArray⟩) (.string ⟨(jL (nx a 1).tail 1).s.toArray⟩) (.bool false)<|.pointer none;refine⟨J,⟨(jL a 1).s,(jL (nx a 1).tail 1).s,0,.nil,false⟩,none,rfl,?_⟩;have i:=l.o;generalize P:(((M.setCell ⟨w.heap.size,0,none⟩<|.string ⟨(jL a 1).s.toArray⟩).setCell ⟨w.heap.size,1,none⟩<|.string ⟨(jL (nx a 1).tail 1).s.toArray⟩).setCell ⟨w.heap.size,2,none⟩<|.bool false).setCell ⟨w.heap.size,3,none⟩ (.pointer none)=W at*;by_cases q:(af a).k=1
  .obtain⟨n,E,F,_⟩:=eg (b:=b)<|nE q;rw[n,E]at i;rw[n]at c;rw[n,F];unfold cg;rw[VG q,VG c];by_cases e:(af a.tail.tail).k=1
   .obtain⟨G,H,I,_⟩:=eg (b:=b)<|nE e;rw[G,H]at i;rw[VG e,I];exact⟨rfl,rfl,A _ _ _ i⟩
   obtain⟨G,H,I,_⟩:=fC (b:=b)<|nN e;rw[G,H]at i;rw[VF e];exact A _ _ _ i
  obtain⟨e,n,E,_⟩:=fC (b:=b)<|nN q;rw[e]at c;cases c
 have y:=nN c;rw[y,(fC (b:=bx a 1 b) y).2.2.2]at j;go_wp2_with fail;apply qR j;rintro F⟨n,l⟩;have e:=h.trans l;have d:=e.q (by omega)<|aM w<|.cells #[.string {data:=#[]},.string {data:=#[]},.bool false,.pointer none] 324;have o:=bC d 0;have p:=bC d 1;have q:=bC d 2;have t:=bC d 3;have G:=bF d;have E:=lB d;simp at o p q t;have k:=Z n;go_wp2_with refine VI (v:=.agg #[.string ⟨(jL a 1).s.toArray⟩,.string ⟨(jL a 1).s.toArray⟩,.bool false,.pointer none]) ?_ rfl ?_
 .simp[Zh,results211,go_sem,o,p,q,t]
 obtain⟨C,x,H⟩:=(Z<|Rw (T:=T) D (((aH.refl rb w).alloc<|.cells #[.string {data:=#[]},.string {data:=#[]},.bool false,.pointer none] 324).trans e) d<|by decide).o (.string ⟨(jL a 1).s.toArray⟩) (.string ⟨(jL a 1).s.toArray⟩) (.bool false)<|.pointer none;refine⟨C,⟨(jL a 1).s,(jL a 1).s,0,.nil,false⟩,none,rfl,?_⟩;have i:=k.o;generalize I:(((F.setCell ⟨w.heap.size,0,none⟩<|.string ⟨(jL a 1).s.toArray⟩).setCell ⟨w.heap.size,1,none⟩<|.string ⟨(jL a 1).s.toArray⟩).setCell ⟨w.heap.size,2,none⟩<|.bool false).setCell ⟨w.heap.size,3,none⟩ (.pointer none)=W at*;by_cases g:(af a).k=1
 .obtain⟨u,z,A,_⟩:=eg (b:=b)<|nE g;rw[u,z]at i;rw[u]at c;rw[A];unfold cg;rw[VG g,VF c];exact⟨rfl,rfl,x _ _ _ i⟩
 obtain⟨u,z,A,_⟩:=fC (b:=b)<|nN g;rw[u,z]at i;unfold cg;rw[VF g];exact x _ _ _ i
def f_:h_:=λts=>if (af ts).k=33 then (if (af ts.tail).k=34 then dE true ts.tail.tail else none)else if (af ts).k=34 then dE false ts.tail else none
def Ug:CO Mi 212 f_:=by
 intro rb T g b w hR;have hz:=hR.lt;go_in;go_wp2_with fail;refine qR (Z<|fO 33 (by decide) rb T g 0 b _<|hR.alloc<|.cells #[.string {data:=#[]},.string {data:=#[]},.bool false,.pointer none] 324) ?_;rintro w1⟨P,ag⟩;have ap:=P.lt;have HE:=Z<|mT [34] 1 rfl (by decide) (by decide) w1.heap.size 1 b (P.alloc<|.cells #[qI 34] 129) (gM w1 [34] _ rfl) (by omega);have X:=Z ag;go_wp2_with fail;apply qR HE;rintro w2⟨i,ah⟩;have Y:=Z<|(X.alloc<|.cells #[qI 34] 129).trans ah;have HS:Ze (∃k E,RC w2 rb T k 0 E/\((E=b/\f_ g=dE (hk g 33) k)\/(E=true/\k=[]/\f_ g=none))):=by
  rw[pf]at i;unfold f_;by_cases d:(af g).k=33
  .have r:=nE d;rw[(eg (b:=b) r).2.2.2]at i;rw[r,VG d];by_cases h:(af g.tail).k=34
   .rw[VG h]at i ⊢;exact⟨_,b,i,.inl ⟨rfl,rfl⟩⟩
   rw[VF h]at i ⊢;exact⟨[],true,i,.inr ⟨rfl,rfl,rfl⟩⟩
  have r:=nN d;rw[(fC (b:=b) r).2.2.2]at i;rw[r,VF d];by_cases h:(af g).k=34
  .rw[VG h]at i ⊢;exact⟨_,b,i,.inl ⟨rfl,rfl⟩⟩
  rw[VF h]at i ⊢;exact⟨[],true,i,.inr ⟨rfl,rfl,rfl⟩⟩
 obtain⟨k,E,al,G⟩:=HS.o;have W:=Z G;have HX:=Z<|Uj rb T k E w2 al;go_wp2_with refine HX.mono ?_;rintro e p⟨ai,c,a,rfl,aj⟩;unfold Mi;have C:=Z<|Y.trans ai;have aa:=Z aj;have R:rb<p.heap.size:=by have:=C.size;simp at this;omega
 have ao:w.heap.size<p.heap.size:=by have:=C.size;simp at this;omega
 have am:∃u J,RC p rb T u 0 J/\((J=b/\E=b/\f_ g=dE (hk g 33) k/\cg k=some (c,u))\/(J=true/\u=[]/\f_ g=none)):=by
  have d:=aa.o;obtain⟨rfl,h⟩|⟨rfl,rfl,h⟩:=W.o
  .cases hs:cg k with
   |none=>rw[hs]at d;exact⟨[],true,d,.inr ⟨rfl,rfl,by rw[h];rw[dE,hs]⟩⟩
   |some y=>
    obtain⟨x,r⟩:=y;rw[hs]at d;obtain⟨rfl,_,t⟩:=d;exact⟨r,E,t,.inl ⟨rfl,rfl,h,rfl⟩⟩
  cases hs:cg []with
  |none=>rw[hs]at d;exact⟨[],true,d,.inr ⟨rfl,rfl,h⟩⟩
  |some y=>
   rw[hs]at d;have r:=d.2.2;rw[ME r]at r;exact⟨[],true,r,.inr ⟨rfl,rfl,h⟩⟩
 obtain⟨u,J,ak,(U:Ze _)⟩:=am;have H:=Z<|mT [35] 1 rfl (by decide) (by decide) (p.heap.size+1) 1 J ((ak.alloc<|.cells #[qT c.name,qT c.aY,.bool c.eC,.pointer a] 324).alloc<|.cells #[qI 35] 129) (by have:=gM (p.alloc<|.cells #[qT c.name,qT c.aY,.bool c.eC,.pointer a] 324) [35] 129 rfl;rw[show(p.alloc<|.cells #[qT c.name,qT c.aY,.bool c.eC,.pointer a] 324).heap.size=p.heap.size+1 by simp]at this;exact this) (by omega);rw[pf]at H;go_wp2_with fail;apply qR H;rintro w4⟨n,M⟩;have an:∃o L,RC w4 rb T o 0 L/\((L=b/\f_ g=match eo 20 o with|none=>none|some (x,r')=>some (⟨c.name,c.aY,0,x,hk g 33⟩,r'))\/(L=true/\o=[]/\f_ g=none)):=by
  obtain⟨rfl,_,h,hs⟩|⟨rfl,rfl,h⟩:=U.o
  .by_cases d:(af u).k=35
   .rw[VG d]at n;exact⟨_,_,n,.inl ⟨rfl,by rw[h];rw[dE,hs];simp only;rw[VG d];rfl⟩⟩
   rw[VF d]at n;exact⟨[],true,n,.inr ⟨rfl,rfl,by rw[h];rw[dE,hs];simp only;rw[VF d]⟩⟩
  rw[VF<|by decide]at n;exact⟨[],true,n,.inr ⟨rfl,rfl,h⟩⟩
 obtain⟨o,L,Q,(V:Ze _)⟩:=an;have ac:=Z<|M.q (by omega)<|bA (aM p<|.cells #[qT c.name,qT c.aY,.bool c.eC,.pointer a] 324)<|.cells #[qI 35] 129;go_wp2_with apply(Z<|pF rb T o L w4 Q).mono;rintro e w5⟨N,D,rfl,(ab:Ze _)⟩;have j:=N.q (by omega) ac;have B:=C.trans<|(Z<|(((aH.refl rb p).alloc<|.cells #[qT c.name,qT c.aY,.bool c.eC,.pointer a] 324).alloc<|.cells #[qI 35] 129).trans M).trans N;have l:=B.q (by omega)<|aM w<|.cells #[.string {data:=#[]},.string {data:=#[]},.bool false,.pointer none] 324;have b0:=bC l 0;have b1:=bC l 1;have I:=bC l 2;have K:=bC l 3;have bf:=bF l;have aq:=lB l;have s0:=bC j 0;have s1:=bC j 1;have s2:=bC j 2;have s3:=bC j 3;have sf:=bF j;have ar:=lB j;have⟨O,q⟩:¬p.heap.size=w.heap.size/\¬w.heap.size=p.heap.size:=by omega
 simp at b0 b1 I K s0 s1 s2 s3;have S:=Z l;have A:=Z j;go_wp2_with fail;refine VI (v:=.agg #[qT c.name,qT c.aY,.bool<|hk g 33,.pointer D]) ?_ rfl ?_
 .simp[Zh,results212,go_sem,b0,b1,I,K,O,q]
 have ae:aH rb w<|(w5.setCell ⟨p.heap.size,2,none⟩<|.bool<|hk g 33).setCell ⟨p.heap.size,3,none⟩<|.pointer D:=((Z<|((aH.refl rb w).alloc<|.cells #[.string {data:=#[]},.string {data:=#[]},.bool false,.pointer none] 324).trans B).l (by simp;omega) _).l (by simp;omega) _;obtain⟨h1,h2,h3⟩:=Rw (T:=T) hz ae (bY (bY S q 2<|.bool<|hk g 33) q 3<|.pointer D) (by decide) (qT c.name) (qT c.aY) (.bool<|hk g 33)<|.pointer D;have F:∀g d b,RC w5 rb T g d b->RC _ rb T g d b:=λg d b h=>h2 g d b<|(h.l R 2 _).l R 3 _;have ad:∀t v,cE w5 rb t v->cE _ rb t v:=λt v h=>h3 t v<|(h.setOther A (by decide) 2 _).setOther (bS A 2 _) (by decide) 3 _;have z:=ab.o;obtain⟨rfl,hj⟩|⟨rfl,rfl,hj⟩:=V.o
 .rw[hj];cases hv:eo 20 o with
  |none=>rw[hv]at z;exact⟨h1,⟨c.name,c.aY,0,.nil,hk g 33⟩,D,rfl,F _ _ _ z⟩
  |some y=>
   obtain⟨x,r⟩:=y;rw[hv]at z;exact⟨h1,⟨c.name,c.aY,0,x,hk g 33⟩,D,rfl,rfl,ad _ _ z.1,F _ _ _ z.2⟩
 rw[hj];refine⟨h1,⟨c.name,c.aY,0,.nil,hk g 33⟩,D,rfl,F _ _ _ ?_⟩;cases hv:eo 20 []with
 |none=>rw[hv]at z;exact z
 |some y=>
  rw[hv]at z;have r:=z.2;rw[ME r]at r;exact r
def II:(prog.info? 324).map (λi=>(i.zero,i.size,i.bytes))=some (some<|.agg #[.string {data:=#[]},.string {data:=#[]},.bool false,.pointer none],4,48):=by kernel_rfl
def FX(aN:Y3):Option (ay×YV)->Option (Y3×YV)
 |none=>none
 |some y=>dJ (y.2.length+1) (aN++[y.1]) y.2
def Fg:Option (Y3×YV)->Option (Y3×YV)
 |none=>none
 |some z=>if 3<z.1.length then none else some z
def tD{c:Y3}:dJ (D.length+1) c D=if (af D).k=33\/(af D).k=34 then FX c (f_ D)else some (c,D):=by
 unfold f_;by_cases a:(af D).k=33
 .rw[VG<|.inl a,VG a];by_cases b:(af D.tail).k=34
  .rw[VG b];rw[oS (left:=true) ⟨a,b,rfl⟩];cases dE true D.tail.tail<;>rfl
  rw[VF b];exact sN a b
 by_cases b:(af D).k=34
 .rw[VG<|.inr b,VF a,VG b];rw[oS (left:=false) ⟨b,rfl⟩];cases dE false D.tail<;>rfl
 rw[VF<|by omega];exact w_ a b
def Dh{b:ay}(h:f_ D=some (b,E)):E.length<D.length:=by
 unfold f_ at h;split at h
 .rename_i a;have c:=fV (by decide) a;split at h
  .have d:=bJ D.tail;have:=kG _ _ _ _ h;omega
  cases h
 split at h
 .rename_i a;have c:=fV (by decide) a;have:=kG _ _ _ _ h;omega
 cases h
def DL(w wr:Za)(rb:Nat)(T:YV)(b:Bool)(sp:Option<|Y3×YV)(g n:Nat)(v:Zb)(cs:Y0)(r:YV)(b':Bool):Prop:=
 aH rb w wr/\wr.ownsRow w.heap.size 324 4 v n cs/\RC wr rb T r 0 b'/\n+r.length<=1048577/\((b'=b/\∃aN,n=aN.length/\r.length<g/\rG wr rb EA aN cs/\dJ (r.length+1) aN r=sp)\/(0<g/\r=[]/\b'=true/\sp=none))
def I1{w w1 w2:Za}{T:YV}{sp:Option (Y3×YV)}{aN:Y3}{tr:YV}{i:Y0}{h:ay}{a:Y8}{q:Option (ay×YV)}(j:aH n w w2)
 (k:∀p d b,RC w1 n T p d b->RC w2 n T p d b)(o:∀t v,cE w1 n t v->cE w2 n t v)(C:rG w1 n EA aN i)(D:aN.length+tr.length<=1048576)(c:w2.ownsRow w.heap.size 324 4 u (aN.length+1)<|i++EA h (.pointer a))
 (l:match q with
  |some (x,r)=>h=x/\cE w1 n x.aW (.pointer a)/\RC w1 n T r 0 b
  |none=>RC w1 n T [] 0 true) (e:∀x r,q=some (x,r)->r.length<=tr.length) (g:FX aN q=sp):∃r z,DL w w2 n T b sp (tr.length+1) (aN.length+1) u (i++EA h (.pointer a)) r z:=by
 cases q with
 |none=>exact⟨[],true,j,c,k _ _ _ l,by simp;omega,.inr ⟨by omega,rfl,rfl,g.symm⟩⟩
 |some y=>
  obtain⟨x,r⟩:=y;obtain⟨rfl,A,B⟩:=l;have:=e _ _ rfl;exact⟨r,b,j,c,k _ _ _ B,by omega,.inl ⟨rfl,aN++[h],by simp,by omega,(C.mono o).snoc<|o _ _ A,g⟩⟩
def I0{wr:Za}{c:Y0}{a:Option (Y3×YV)}(h:(L=b/\∃aN,n=aN.length/\D.length<k/\rG wr i EA aN c/\dJ (D.length+1) aN D=a)\/(0<k/\D=[]/\L=true/\a=none)):D.length<k:=by
 obtain⟨_,aN,_,h,_⟩|⟨h,rfl,_⟩:=h
 .exact h
 simpa using h
def OJ{T:YV}(b:Bool)(hR:RC w k T D 0 b):
 Zc prog 158 #[qP k] w (vT 324 4 EA w k T 0 b<|Fg<|dn D):=by
 obtain⟨i0,hi,X,Y,aa⟩:=V5 II;have M:=hR.lt;generalize ay:dn D=O;have am:=Z ay;go_in;go_wp2_with apply(Z<|Uj k T D b w hR).mono;rintro e w1⟨K,N,a,rfl,o⟩;have B:=I1 (w:=w) (w1:=w1) (w2:=w1.alloc<|.cells #[qT N.name,qT N.aY,.bool N.eC,.pointer a] 324) (aN:=[]) (tr:=D) (sp:=O) (K.alloc _) (λD d b h=>h.alloc _) (λt v h=>h.d<|(aH.refl _ _).alloc _) (show rG w1 k EA [] []from rfl) (by simpa using hR.len) (Ks w1 1 4 [qT N.name,qT N.aY,.bool N.eC,.pointer a] K.size (by decide) rfl) o (λx r h=>n_ _ _ _ h) (by rw[<-am];unfold dn;cases cg D<;>rfl);have HS:=Z B;have aD:=Z K;unfold Mi;go_wp2
 go_loopg [3] (D.length+1) (λg x wr=>∃n S r j,Ze<|DL w wr k T b O g n x S r j)
 case atStart=>
  obtain⟨r,j,h⟩:=HS.o;exact⟨1,_,r,j,h⟩
 case round=>
  obtain⟨n,S,r,j,c⟩:=hrel;obtain⟨(HK:Ze _),(HO:Ze _),l,aI,hi⟩:=c.o;have aJ:=HK.size;obtain⟨va,vc,rfl⟩:=bN HO;have I:=Z<|uG j l;have i:=Z hi;clear l c hi;have HG:=Z<|I0 i;by_cases J:(af r).k=33
  .have G:Ze<|(af r).k=33:=J;have ai:Ze<|(af r).k=33\/(af r).k=34:=.inl J;have aE:(((af r).k:Int)==33)=true:=by simp[J]
   go_wp2_with fail;apply qR I;rintro w2⟨av,U⟩;have ak:=Z av;have ab:=Z<|HK.trans U;have Q:=Z U;have ap:j=b/\∃aN,n=aN.length/\dJ (r.length+1) aN r=O:=by
    obtain⟨e,aN,l,u,y,q⟩|⟨_,e,_,_⟩:=i.o
    .exact⟨e,aN,l,q⟩
    subst e;cases G.o
   have HJ:=Z<|Ug k T r j w2 ak;go_wp2_with refine HJ.mono ?_;rintro e w5⟨H,c,a5,rfl,ar⟩;have P:=Z<|ab.trans H;have p:=dM H M<|dM Q M HO;have aB:=P.size;have R:=Z ar;have L:=Z<|Q.trans H;unfold Mi;go_wp2_with (at_builtin;refine VS _ rfl (.tmp 15) (.tmp 18) 226 rfl w.heap.size 324 i0 _ 4 48 underlying226 hi X Y aa rfl (by decide) _ _ _ rfl (p.alloc _) ⟨w5.heap.size,0,none⟩ 1 1 [qT c.name,qT c.aY,.bool c.eC,.pointer a5] rfl rfl ?c1 ?c2 ?c3 ?c4 ?c5 ?_)
   case c1=>exact cW w5 [qT c.name,qT c.aY,.bool c.eC,.pointer a5] 324
   case c2=>intro u l;simp at l;obtain rfl|rfl|rfl|rfl:=l<;>rfl
   case c3=>unfold Zj;omega
   case c4=>omega
   case c5=>simp;omega
   intro v' w6 z an az;obtain⟨V,F,E⟩:=Ol (T:=T) (C:=[qT c.name,qT c.aY,.bool c.eC,.pointer a5]) (by decide) M P p an;have ag:Ze (∃W b2,DL w w6 k T b O r.length (n+1) v' (S++EA c (.pointer a5)) W b2):=by
    obtain⟨e,aN,h1,h2,h3,u⟩|⟨_,e,_,_⟩:=i.o
    .subst e h1;rw[tD,VG ai.o]at u;cases hq:f_ r with
     |none=>
      have o:=R.o;rw[hq]at u o;have y:0<r.length:=by
       cases r with
       |nil=>cases G.o
       |cons q l=>simp
      exact⟨[],true,V,z,F _ _ _ o,by simp;omega,.inr ⟨y,rfl,rfl,u.symm⟩⟩
     |some y=>
      obtain⟨x,W⟩:=y;have o:=R.o;rw[hq]at u o;obtain⟨rfl,l,q⟩:=o;have:=Dh hq;exact⟨W,j,V,z,F _ _ _ q,by omega,.inl ⟨rfl,aN++[c],by simp,this,((h3.mono λt v=>cE.d L).mono E).snoc<|E _ _ l,u⟩⟩
    subst e;cases G.o
   go_wp2
   go_roundg r.length
   case measure=>exact HG
   obtain⟨W,b2,h⟩:=ag.o;exact⟨_,_,W,b2,h⟩
  by_cases A:(af r).k=34
  .have H:Ze<|(af r).k=34:=A;have aj:Ze<|(af r).k=33\/(af r).k=34:=.inr A;have aF:(((af r).k:Int)==33)=false:=by simp[A]
   have aG:(((af r).k:Int)==34)=true:=by simp[A]
   go_wp2_with fail;apply qR I;rintro w2⟨aw,U⟩;have R:=Z<|uG j aw;have ac:=Z<|HK.trans U;have ae:=Z U;go_wp2_with fail;apply qR R;rintro w3⟨ax,V⟩;have al:=Z ax;have ad:=Z<|ac.trans V;have E:=Z<|ae.trans V;have aq:j=b/\∃aN,n=aN.length/\dJ (r.length+1) aN r=O:=by
    obtain⟨e,aN,l,u,y,q⟩|⟨_,e,_,_⟩:=i.o
    .exact⟨e,aN,l,q⟩
    subst e;cases H.o
   go_wp2_with apply(Z<|Ug k T r j w3 al).mono;rintro e w5⟨L,c,a5,rfl,au⟩;have P:=Z<|ad.trans L;have p:=dM L M<|dM E M HO;have aC:=P.size;have Q:=Z au;unfold Mi;go_wp2_with (at_builtin;refine VS _ rfl (.tmp 15) (.tmp 18) 226 rfl w.heap.size 324 i0 _ 4 48 underlying226 hi X Y aa rfl (by decide) _ _ _ rfl (p.alloc _) ⟨w5.heap.size,0,none⟩ 1 1 [qT c.name,qT c.aY,.bool c.eC,.pointer a5] rfl rfl ?c1 ?c2 ?c3 ?c4 ?c5 ?_)
   case c1=>exact cW w5 [qT c.name,qT c.aY,.bool c.eC,.pointer a5] 324
   case c2=>intro u l;simp at l;obtain rfl|rfl|rfl|rfl:=l<;>rfl
   case c3=>unfold Zj;omega
   case c4=>omega
   case c5=>simp;omega
   intro v' w6 z ao aA;obtain⟨W,G,F⟩:=Ol (T:=T) (C:=[qT c.name,qT c.aY,.bool c.eC,.pointer a5]) (by decide) M P p ao;have ah:Ze (∃r2 b2,DL w w6 k T b O r.length (n+1) v' (S++EA c (.pointer a5)) r2 b2):=by
    obtain⟨e,aN,h1,h2,h3,u⟩|⟨_,e,_,_⟩:=i.o
    .subst e h1;rw[tD,VG aj.o]at u;cases hq:f_ r with
     |none=>
      have o:=Q.o;rw[hq]at u o;have y:0<r.length:=by
       cases r with
       |nil=>cases H.o
       |cons q l=>simp
      exact⟨[],true,W,z,G _ _ _ o,by simp;omega,.inr ⟨y,rfl,rfl,u.symm⟩⟩
     |some y=>
      obtain⟨x,r2⟩:=y;have o:=Q.o;rw[hq]at u o;obtain⟨rfl,l,q⟩:=o;have:=Dh hq;exact⟨r2,j,W,z,G _ _ _ q,by omega,.inl ⟨rfl,aN++[c],by simp,this,((h3.mono λt v=>cE.d<|Z<|E.trans L).mono F).snoc<|F _ _ l,u⟩⟩
    subst e;cases H.o
   go_wp2
   go_roundg r.length
   case measure=>exact HG
   obtain⟨r2,b2,h⟩:=ah.o;exact⟨_,_,r2,b2,h⟩
  have L:(((af r).k:Int)==33)=false:=by simp;omega
  have P:(((af r).k:Int)==34)=false:=by simp;omega
  have u:Ze<|¬((af r).k=33\/(af r).k=34):=by unfold Ze;omega
  go_wp2_with fail;apply qR I;rintro W⟨G,y⟩;have q:=Z y;go_wp2_with fail;apply qR<|Z<|uG j G;rintro w3⟨H,l⟩;have c:=Z H;have p:=Z<|(Z<|HK.trans y).trans l;by_cases V:3<n
  .go_wp2_with fail;apply qR<|A0 j c;rintro w4⟨z,F⟩;go_wp2;go_ret;refine⟨p.trans F,va,n,vc,rfl,?_⟩;obtain⟨e,aN,R,U,Q,E⟩|⟨_,e,_,E⟩:=i.o
   .rw[tD,VF u.o]at E;rw[<-E];simp only[Fg];rw[VG<|by omega];exact z
   rw[E];exact z
  go_wp2;go_ret;refine⟨p,va,n,vc,rfl,?_⟩;obtain⟨e,aN,Q,R,E,z⟩|⟨_,e,F,z⟩:=i.o
  .rw[tD,VF u.o]at z;rw[<-z];simp only[Fg];rw[VF<|by omega];subst e Q;exact⟨⟨S,Z<|dM (q.trans l) M HO,E.mono λt v=>cE.d<|Z<|q.trans l⟩,c⟩
  rw[z];subst e F;exact c
def Ae(w:Za)(rb base:Nat)(s:aX)(n:Nat):Prop:=
 base<=n/\(if s.aC=99 then ∃v,w.heap[n]?=some (.cells #[qT s.table,v] 190)/\iY w rb base 97 2 SL s.c v
 else if s.aC=105 then ∃v,w.heap[n]?=some (.cells #[qT s.table,v] 194)/\iY w rb base 199 1 Qy s.c v
 else if s.aC=100 then ∃v,w.heap[n]?=some (.cells #[qT s.table,v] 201)/\cE w rb s.d v
 else if s.aC=117 then ∃u v,w.heap[n]?=some (.cells #[qT s.table,u,v] 213)/\iY w rb base 259 2 Tj s.c u/\cE w rb s.d v
 else ∃u x v o,w.heap[n]?=some (.cells #[.bool s.a,u,x,v,o,qI (if s.g=-1 then 9223372036854775807 else s.g),qI s.offset] 229)/\(if s.all=true then u=qN else iY w rb base 199 1 Qy s.c u)/\iY w rb base 324 4 EA s.b x/\cE w rb s.d v/\iY w rb base 328 2 Qx s.e o)
def ri(w:Za)(rb:Nat)(T:YV)(b:Bool)(spec:Option<|aX×YV)(e:Zg)(w':Za):Prop:=
 aH rb w w'/\∃n:Nat,e=.returned (qP n)/\match spec with
  |some (s,r)=>Ae w' rb w.heap.size s n/\RC w' rb T r 0 b
  |none=>RC w' rb T [] 0 true
def Ep{e d:Zf}{v:Zb}{p:Y0}{C:Y_}(h:w.ownsRow i e j v n p)(a:w.heap[k]?=some (.cells C d))(u:d≠e)(o:Nat)(x:Zb):(w.setCell ⟨k,o,none⟩ x).ownsRow i e j v n p:=by
 obtain⟨t,c⟩:=h;refine⟨t,?_⟩;obtain c|⟨g,cap,b,z,y,l,r⟩:=c
 .exact .inl c
 refine .inr ⟨g,cap,b,z,y,bY l (λq=>?_) _ _,r⟩;subst q;rw[l]at a;injection a with a;injection a with _ a _;exact u a.symm
def iY.setOther{e a:Zf}{g:ay->Zb->Y0}{c:Y3}{v:Zb}{C:Y_}(h:iY w n i e j g c v)(d:w.heap[k]?=some (.cells C a))(r:a≠e)(b:a≠269)(o:Nat)(x:Zb):iY (w.setCell ⟨k,o,none⟩ x) n i e j g c v:=by obtain⟨l,p,q⟩:=h;exact⟨l,Ep p d r o x,q.mono λt v h=>h.setOther d b o x⟩
def iY.base{base:Nat}{e:Zf}{d:ay->Zb->Y0}{c:Y3}{v:Zb}(h:iY w n base e i d c v)(q:k<=base):iY w n k e i d c v:=by
 obtain⟨j,⟨l,b⟩,o⟩:=h;refine⟨j,⟨l,?_⟩,o⟩;obtain b|⟨g,cap,a,p,t,r⟩:=b
 .exact .inl b
 exact .inr ⟨g,cap,a,p,by omega,r⟩
def vu(w:Za){o:Obj}(a:Y4){C:Y_}{t:Zf}(b:C=(a.map λk=>qI (k:Nat)).toArray):Ee ((w.alloc o).alloc<|.cells C t) (w.heap.size+1) a:=by have h:=gM (w.alloc o) a t b;rw[show(w.alloc o).heap.size=w.heap.size+1 by simp]at h;exact h
def Gd{σ:Type}(b:Bool)(spec:Option σ)(ts:YV)(b':Bool)(P:Prop):Prop:=(b'=b/\P)\/(b'=true/\ts=[]/\spec=none)
def Gd.map{σ:Type}{a:Option σ}{P Q:Prop}(h:Gd b a D L P)(f:P->Q):Gd b a D L Q:=by
 obtain⟨e,p⟩|h:=h
 .exact .inl ⟨e,f p⟩
 exact .inr h
def A4{σ:Type}{b:Bool}{spec:Option σ}{P:Prop}{T:YV}(a:YV->Option σ)(j:Gd b spec D L P)(i:P->spec=if (af D).k=k then a D.tail else none)(e:k≠0)(c:QY w n T (mW [k] D) 0 L):
 ∃d g,RC w n T d 0 g/\Gd b spec d g (P/\spec=a d):=by
 rw[pf]at c;obtain⟨rfl,p⟩|⟨rfl,rfl,hs⟩:=j
 .by_cases h:(af D).k=k
  .rw[VG h]at c;exact⟨D.tail,L,c,.inl ⟨rfl,p,by rw[i p,VG h]⟩⟩
  rw[VF h]at c;exact⟨[],true,c,.inr ⟨rfl,rfl,by rw[i p,VF h]⟩⟩
 .rw[VF λh=>e h.symm]at c;exact⟨[],true,c,.inr ⟨rfl,rfl,hs⟩⟩
def D6{σ:Type}{a:Option σ}{P:Prop}{k:Nat}{T:YV}(j:Gd b a D L P)(i:P->(af D).k≠k->a=none)(e:k≠0)(c:QY w n T (mW [k] D) 0 L):
 ∃d g,RC w n T d 0 g/\Gd b a d g (P/\(af D).k=k/\d=D.tail):=by
 rw[pf]at c;obtain⟨rfl,p⟩|⟨rfl,rfl,hs⟩:=j
 .by_cases h:(af D).k=k
  .rw[VG h]at c;exact⟨D.tail,L,c,.inl ⟨rfl,p,h,rfl⟩⟩
  rw[VF h]at c;exact⟨[],true,c,.inr ⟨rfl,rfl,i p h⟩⟩
 .rw[VF λh=>e h.symm]at c;exact⟨[],true,c,.inr ⟨rfl,rfl,hs⟩⟩
def D5{σ:Type}{b:Bool}{spec:Option σ}{b':Bool}{P:Prop}(a:YX->YV->Option σ)(i:Gd b spec D b' P)(c:P->spec=if (af D).k=1 then a (af D).s D.tail else none):Gd b spec (nx D 1) (bx D 1 b')<|P/\spec=a (jL D 1).s (nx D 1):=by
 obtain⟨rfl,p⟩|⟨rfl,rfl,hs⟩:=i
 .by_cases h:(af D).k=1
  .obtain⟨d,e,g,_⟩:=eg (b:=b')<|nE h;rw[d,e,g];exact .inl ⟨rfl,p,by rw[c p,VG h]⟩
  obtain⟨d,e,g,_⟩:=fC (b:=b')<|nN h;rw[d,e];exact .inr ⟨rfl,rfl,by rw[c p,VF h]⟩
 exact .inr ⟨rfl,rfl,hs⟩
def D4{σ:Type}{b:Bool}{spec:Option σ}{ts:YV}{b':Bool}{P:Prop}{T:YV}{e:Zf}{q:ay->Zb->Y0}{v:Zb}{l:Option (Y3×YV)}(a:Y3->YV->Option σ)(o:Gd b spec ts b' P)(j:P->spec=match l with|none=>none|some y=>a y.1 y.2)
 (d:match (generalizing:=false) l with
  |some (aN,r)=>iY w n k e i q aN v/\RC w n T r 0 b'
  |none=>RC w n T [] 0 true):∃c h,RC w n T c 0 h/\Gd b spec c h (P/\∃aN,iY w n k e i q aN v/\spec=a aN c):=by
 cases l with
 |none=>
  obtain⟨rfl,p⟩|⟨rfl,rfl,hs⟩:=o
  .exact⟨[],true,d,.inr ⟨rfl,rfl,j p⟩⟩
  exact⟨[],true,d,.inr ⟨rfl,rfl,hs⟩⟩
 |some y=>
  obtain⟨aN,r⟩:=y;obtain⟨rfl,p⟩|⟨rfl,rfl,hs⟩:=o
  .exact⟨r,b',d.2,.inl ⟨rfl,p,aN,d.1,j p⟩⟩
  have g:=d.2;rw[ME g]at g;exact⟨[],true,g,.inr ⟨rfl,rfl,hs⟩⟩
def TX{σ:Type}{c:Option σ}{P:Prop}{T:YV}{a:Y8}{l:Option (aA×YV)}(d:aA->YV->Option σ)(k:Gd b c D L P)(j:P->c=match l with|none=>none|some y=>d y.1 y.2)
 (g:match (generalizing:=false) l with
  |some (x,r)=>cE w n x (.pointer a)/\RC w n T r 0 L
  |none=>RC w n T [] 0 true):∃e i,RC w n T e 0 i/\Gd b c e i (P/\∃x,cE w n x (.pointer a)/\c=d x e):=by
 cases l with
 |none=>
  obtain⟨rfl,p⟩|⟨rfl,rfl,hs⟩:=k
  .exact⟨[],true,g,.inr ⟨rfl,rfl,j p⟩⟩
  exact⟨[],true,g,.inr ⟨rfl,rfl,hs⟩⟩
 |some y=>
  obtain⟨x,r⟩:=y;obtain⟨rfl,p⟩|⟨rfl,rfl,hs⟩:=k
  .exact⟨r,L,g.2,.inl ⟨rfl,p,x,g.1,j p⟩⟩
  have h:=g.2;rw[ME h]at h;exact⟨[],true,h,.inr ⟨rfl,rfl,hs⟩⟩
def Gd.post{T:YV}{a:Option (aX×YV)}{P:Prop}(i:aH k w W)(c:RC W k T D 0 L)(h:Gd b a D L P)(g:P->∃s,a=some (s,D)/\Ae W k w.heap.size s n):ri w k T b a (.returned<|qP n) W:=by
 refine⟨i,n,rfl,?_⟩;obtain⟨rfl,p⟩|⟨rfl,rfl,hs⟩:=h
 .obtain⟨s,d,e⟩:=g p;rw[d];exact⟨e,c⟩
 rw[hs];exact c
def MS(nm:YX)(aN:Y3)(ts:YV):Option<|aX×YV:=if 5<aN.length then none else some (eM 99 nm aN .nil,ts)
def K0(nm:YX)(aN:Y3)(ts:YV):Option<|aX×YV:=if (af ts).k=8 then MS nm aN ts.tail else none
def RB(nm:YX)(ts:YV):Option<|aX×YV:=match bR dL ts with|none=>none|some y=>K0 nm y.1 y.2
def RA(nm:YX)(ts:YV):Option<|aX×YV:=if (af ts).k=7 then RB nm ts.tail else none
def Rz(ts:YV):Option<|aX×YV:=if (af ts).k=1 then RA (af ts).s ts.tail else none
def Dc(p:h_)(a:YV):fK p a=if (af a).k=7 then (match bR p a.tail with|none=>none|some y=>if (af y.2).k=8 then some (y.1,y.2.tail)else none)else none:=by
 unfold fK;split
 .cases bR p a.tail<;>rfl
 rfl
def Jd(b:YV):dB b=if (af b).k=21 then Rz b.tail else none:=by
 unfold dB Rz RA RB;rw[Dc];by_cases a:(af b).k=21
 .rw[VG a,VG a];by_cases c:(af b.tail).k=1
  .rw[VG c,VG c];by_cases d:(af b.tail.tail).k=7
   .rw[VG d,VG d];cases hl:bR dL b.tail.tail.tail with
    |none=>rfl
    |some y=>
     simp only[K0,MS];by_cases e:(af y.2).k=8
     .rw[VG e,VG e]
     rw[VF e,VF e]
   rw[VF d,VF d]
  rw[VF c,VF c]
 rw[VF a,VF a]
def PB{T:YV}(b:Bool)(hR:RC w i T D 0 b):
 Zc prog 95 #[qP i] w (ri w i T b<|dB D):=by
 have hz:=hR.lt;have HE:=Z<|mT [21] 1 rfl (by decide) (by decide) w.heap.size 1 b (hR.alloc<|.cells #[qI 21] 129) (gM w [21] _ rfl) (by omega);generalize K:dB D=M;rw[Jd]at K;have V:=Z K;go_in;go_wp2_with fail;apply qR HE;rintro w1⟨q,ae⟩;obtain⟨t1,b1,q,aa⟩:=A4 (b:=b) (spec:=M) (P:=True) Rz (.inl ⟨rfl,trivial⟩) (λ_=>V.symm) (by decide) q;have Q:=Z<|(D5 RA aa λh=>h.2).map λh=>h.2;go_wp2_with fail;apply qR<|Z<|uA b1 q;rintro u⟨J,af⟩;have z:=Z<|(Z<|((aH.refl i w).alloc<|.cells #[qI 21] 129).trans ae).trans af;have o:=z.size;have O:=Z<|mT [7] 1 rfl (by decide) (by decide) (u.heap.size+1) 1 (bx t1 1 b1) ((J.alloc<|.cells #[.string ⟨(jL t1 1).s.toArray⟩,qN] 190).alloc<|.cells #[qI 7] 129) (vu u [7] rfl) (by omega);generalize (jL t1 1).s=p at*;go_wp2_with fail;apply qR O;rintro w3⟨r,G⟩;obtain⟨t3,b3,r,ab⟩:=A4 (RB p) Q (λh=>h) (by decide) r;have R:=Z<|ab.map λh=>h.2;have A:=Z<|((z.alloc<|.cells #[qT p,qN] 190).alloc<|.cells #[qI 7] 129).trans G;have U:=Z<|G.q (by omega)<|bA (aM u<|.cells #[qT p,qN] 190)<|.cells #[qI 7] 129;go_wp2_with apply(Z<|Ua 152 (λa w=>by go_simp) dL ui Vh i T t3 b3 w3 r).mono;rintro e N⟨H,a,n,c,rfl,ai⟩;have d:=H.q (by omega) U;have s0:=bC d 0;have s1:=bC d 1;have sf:=bF d;have ak:=lB d;simp at s0 s1;have L:w.heap.size<=w3.heap.size:=A.size;obtain⟨t4,b4,aj,ac⟩:=D4 (K0 p) R (λh=>h) ai;have l:=aj.l J.lt 1<|.slice a n c;have am:=l.lt;have x:=Z<|mT [8] 1 rfl (by decide) (by decide) _ 1 b4 (l.alloc<|.cells #[qI 8] 129) (gM _ [8] _ rfl) (by omega);rw[size_set]at x;have E:=Z<|bS d 1<|.slice a n c;have S:Ze<|Gd b M t4 b4 (∃aN,iY (N.setCell ⟨u.heap.size,1,none⟩<|.slice a n c) i w.heap.size 97 2 SL aN (.slice a n c)/\aN.length=n/\M=K0 p aN t4):=by refine ac.map ?_;rintro⟨_,aN,W,h2⟩;refine⟨aN,(W.base L).setOther d (by decide) (by decide) _ _,?_,h2⟩;obtain⟨cs,I,_⟩:=W;obtain⟨a',c',e⟩:=bN I;injection e with _ e _;exact e.symm
 go_wp2_with fail;apply qR x;rintro w5⟨t,ag⟩;have al:N.heap.size=(N.setCell ⟨u.heap.size,1,none⟩<|.slice a n c).heap.size:=(size_set _ _ _).symm;generalize Y:N.setCell ⟨u.heap.size,1,none⟩ (.slice a n c)=W4 at*;have j:=Z<|((aH.refl i W4).alloc<|.cells #[qI 8] 129).trans ag;have B:Ze<|aH i w w5:=by
  unfold Ze;have:aH i w W4:=by rw[<-Y];exact(Z<|A.trans H).l (by simpa using o) _
  exact this.trans j
 obtain⟨t5,b5,t,ad⟩:=D6 (k:=8) S (λh X=>by obtain⟨aN,_,_,h⟩:=h;rw[h,K0,VF X]) (by decide) t;have g:=j.q (by omega) E;have s0:=bC g;have sf:=bF g;have ak:=lB g;have y:Ze<|Gd b M t5 b5 (∃aN,iY w5 i w.heap.size 97 2 SL aN (.slice a n c)/\aN.length=n/\M=MS p aN t5):=by refine ad.map ?_;rintro⟨⟨aN,I,W,h3⟩,X,rfl⟩;exact⟨aN,I.d j hz,W,by rw[h3,K0,VG X]⟩
 have F:=Z g;have C:=Z t;by_cases h5:5<n
 .go_wp2_with fail;apply qR<|A0 b5 C;rintro w6⟨I,ah⟩;go_wp2;go_ret;refine⟨B.trans ah,_,rfl,?_⟩;obtain⟨_,aN,h1,h2,W⟩|⟨_,_,W⟩:=y.o
  .rw[W,MS,VG<|by omega];exact I
  rw[W];exact I
 .go_wp2;go_ret;refine Gd.post B C y ?_;rintro⟨aN,I,h2,W⟩;refine⟨_,by rw[W,MS,VF<|by omega],o,?_⟩;rw[VG (show(eM 99 p aN .nil).aC=99 from rfl)];exact⟨_,(show w5.heap[u.heap.size]?=some (.cells #[qT p,.slice a n c] 190) by simpa using F.o),I⟩
def St:mW [k,j] D=if (af D).k=k then (if (af D.tail).k=j then some D.tail.tail else none)else none:=by
 rw[mW,pf];unfold hk;by_cases h:(af D).k=k
 .simp[h]
 simp[h]
def PR{σ:Type}{a:Option σ}{P:Prop}{k j:Nat}{T:YV}(o:Gd b a D L P)(l:P->¬((af D).k=k/\(af D.tail).k=j)->a=none)(g:k≠0)(c:QY w n T (mW [k,j] D) 0 L):
 ∃d i,RC w n T d 0 i/\Gd b a d i (P/\(af D).k=k/\(af D.tail).k=j/\d=D.tail.tail):=by
 rw[St]at c;obtain⟨rfl,p⟩|⟨rfl,rfl,hs⟩:=o
 .by_cases h:(af D).k=k
  .rw[VG h]at c;by_cases e:(af D.tail).k=j
   .rw[VG e]at c;exact⟨D.tail.tail,L,c,.inl ⟨rfl,p,h,e,rfl⟩⟩
   rw[VF e]at c;exact⟨[],true,c,.inr ⟨rfl,rfl,l p λh=>e h.2⟩⟩
  rw[VF h]at c;exact⟨[],true,c,.inr ⟨rfl,rfl,l p λe=>h e.1⟩⟩
 .rw[VF λh=>g h.symm]at c;exact⟨[],true,c,.inr ⟨rfl,rfl,hs⟩⟩
def K4(nm:YX)(aN:Y3)(ts:YV):Option<|aX×YV:=if (af ts).k=8 then some (eM 105 nm aN .nil,ts.tail)else none
def RH(nm:YX)(ts:YV):Option<|aX×YV:=match bR dc ts with|none=>none|some y=>K4 nm y.1 y.2
def MX(nm:YX)(ts:YV):Option<|aX×YV:=if (af ts).k=24/\(af ts.tail).k=7 then RH nm ts.tail.tail else none
def RG(ts:YV):Option<|aX×YV:=if (af ts).k=1 then MX (af ts).s ts.tail else none
def Jf(c:YV):dP c=if (af c).k=23 then RG c.tail else none:=by
 unfold dP RG MX RH;rw[Dc];by_cases a:(af c).k=23
 .rw[VG a,VG a];by_cases d:(af c.tail).k=1
  .rw[VG d,VG d];by_cases b:(af c.tail.tail).k=24
   .rw[VG b];by_cases e:(af c.tail.tail.tail).k=7
    .rw[VG e,VG ⟨b,e⟩];cases hl:bR dc c.tail.tail.tail.tail with
     |none=>rfl
     |some y=>
      simp only[K4];by_cases g:(af y.2).k=8
      .rw[VG g,VG g]
      rw[VF g,VF g]
    rw[VF e,VF λh=>e h.2]
   rw[VF b,VF λh=>b h.1]
  rw[VF d,VF d]
 rw[VF a,VF a]
def insertC{T:YV}(b:Bool)(hR:RC w i T D 0 b):
 Zc prog 96 #[qP i] w (ri w i T b<|dP D):=by
 have hz:=hR.lt;have HE:=Z<|mT [23] 1 rfl (by decide) (by decide) w.heap.size 1 b (hR.alloc<|.cells #[qI 23] 129) (gM w [23] _ rfl) (by omega);generalize J:dP D=x;rw[Jf]at J;have X:=Z J;go_in;go_wp2_with fail;apply qR HE;rintro w1⟨r,af⟩;obtain⟨t1,b1,r,ab⟩:=A4 (b:=b) (spec:=x) (P:=True) RG (.inl ⟨rfl,trivial⟩) (λ_=>X.symm) (by decide) r;have N:=Z<|(D5 MX ab λh=>h.2).map λh=>h.2;have S:=Z<|((aH.refl i w).alloc<|.cells #[qI 23] 129).trans af;go_wp2_with fail;apply qR<|Z<|uA b1 r;rintro y⟨I,ag⟩;have al:=I.lt;have A:=Z<|S.trans ag;have p:=A.size;have M:=Z<|mT [24,7] 2 rfl (by decide) (by decide) (y.heap.size+1) 2 (bx t1 1 b1) ((I.alloc<|.cells #[.string ⟨(jL t1 1).s.toArray⟩,qN] 194).alloc<|.cells #[qI 24,qI 7] 129) (vu y [24,7] rfl) (by omega);generalize (jL t1 1).s=l at*;go_wp2_with fail;apply qR M;rintro w3⟨t,G⟩;obtain⟨t3,b3,t,ac⟩:=PR (k:=24) (j:=7) N (λh hn=>by rw[h,MX,VF hn]) (by decide) t;have O:Ze<|Gd b x t3 b3<|x=RH l t3:=ac.map (λh=>by obtain⟨q,Y,F,h4⟩:=h;rw[q,MX,VG ⟨Y,F⟩,h4]);have ak:=G.q (by omega)<|bA (aM y<|.cells #[qT l,qN] 194)<|.cells #[qI 24,qI 7] 129;have B:=Z<|((A.alloc<|.cells #[qT l,qN] 194).alloc<|.cells #[qI 24,qI 7] 129).trans G;have W:=Z ak;go_wp2_with apply(Z<|Q7 154 (λa w=>by go_simp) dc o6 Ui i T t3 b3 w3 t).mono;rintro e L⟨H,a,n,c,rfl,ai⟩;have d:=H.q (by omega) W;have s0:=bC d;have sf:=bF d;have ao:=lB d;have K:w.heap.size<=w3.heap.size:=B.size;obtain⟨t4,b4,aj,ad⟩:=D4 (K4 l) O (λh=>h) ai;have o:=aj.l al 1<|.slice a n c;have an:=o.lt;have z:=Z<|mT [8] 1 rfl (by decide) (by decide) _ 1 b4 (o.alloc<|.cells #[qI 8] 129) (gM _ [8] _ rfl) (by omega);rw[size_set]at z;have C:=Z<|bS d 1<|.slice a n c;have Q:Ze<|Gd b x t4 b4 (∃aN,iY (L.setCell ⟨y.heap.size,1,none⟩<|.slice a n c) i w.heap.size 199 1 Qy aN (.slice a n c)/\x=K4 l aN t4):=by refine ad.map ?_;rintro⟨_,aN,q,Y⟩;exact⟨aN,(q.base K).setOther d (by decide) (by decide) _ _,Y⟩
 go_wp2_with fail;apply qR z;rintro w5⟨u,ah⟩;have am:L.heap.size=(L.setCell ⟨y.heap.size,1,none⟩<|.slice a n c).heap.size:=(size_set _ _ _).symm;generalize aa:L.setCell ⟨y.heap.size,1,none⟩ (.slice a n c)=W4 at*;have g:=Z<|((aH.refl i W4).alloc<|.cells #[qI 8] 129).trans ah;have U:Ze<|aH i w w5:=by
  unfold Ze;have:aH i w W4:=by rw[<-aa];exact(Z<|B.trans H).l (by simpa using p) _
  exact this.trans g
 obtain⟨t5,b5,u,ae⟩:=D6 (k:=8) Q (λh h8=>by obtain⟨aN,_,h⟩:=h;rw[h,K4,VF h8]) (by decide) u;have R:Ze<|Gd b x t5 b5 (∃aN,iY w5 i w.heap.size 199 1 Qy aN (.slice a n c)/\x=some (eM 105 l aN .nil,t5)):=by refine ae.map ?_;rintro⟨⟨aN,q,F⟩,h8,rfl⟩;exact⟨aN,q.d g hz,by rw[F,K4,VG h8]⟩
 have E:=Z<|g.q (by omega) C;have V:=Z u;go_wp2;go_ret;refine Gd.post U V R ?_;rintro⟨aN,q,F⟩;refine⟨_,F,p,?_⟩;rw[VF (show ¬(eM 105 l aN .nil).aC=99 from(by decide:¬(105:Int)=99)),VG (show(eM 105 l aN .nil).aC=105 from rfl)];exact⟨_,(show w5.heap[y.heap.size]?=some (.cells #[qT l,.slice a n c] 194) by simpa using E.o),q⟩
def RE(nm:YX)(ts:YV):Option<|aX×YV:=match bX ts with|none=>none|some y=>some (eM 100 nm [] y.1,y.2)
def RD(ts:YV):Option<|aX×YV:=if (af ts).k=1 then RE (af ts).s ts.tail else none
def Je(b:YV):ez b=if (af b).k=26 then RD b.tail else none:=by
 unfold ez RD RE;by_cases a:(af b).k=26
 .rw[VG a,VG a];by_cases c:(af b.tail).k=1
  .rw[VG c,VG c];cases bX b.tail.tail<;>rfl
  rw[VF c,VF c]
 rw[VF a,VF a]
def PG{T:YV}(b:Bool)(G:RC w n T D 0 b):
 Zc prog 97 #[qP n] w (ri w n T b<|ez D):=by
 have Q:=G.lt;generalize k:ez D=M;rw[Je]at k;have t:=Z k;go_in;go_wp2_with fail;refine qR (Z<|mT [26] 1 rfl (by decide) (by decide) w.heap.size 1 b (G.alloc<|.cells #[qI 26] 129) (gM w [26] _ rfl)<|by omega) ?_;rintro S⟨c,z⟩;obtain⟨E,F,c,u⟩:=A4 (b:=b) (spec:=M) (P:=True) RD (.inl ⟨rfl,trivial⟩) (λ_=>t.symm) (by decide) c;have p:=Z<|(D5 RE u λh=>h.2).map λh=>h.2;go_wp2_with fail;apply qR<|Z<|uA F c;rintro N⟨i,A⟩;have K:=i.lt;have d:=Z<|(Z<|((aH.refl n w).alloc<|.cells #[qI 26] 129).trans z).trans A;have H:=d.size;generalize (jL E 1).s=o at*;go_wp2_with apply(Z<|JR n T (nx E 1) (bx E 1 F) N i).mono;rintro e U⟨B,a,rfl,C⟩;have g:=Z<|d.trans B;obtain⟨R,O,j,y⟩:=TX (λx D=>some (eM 100 o [] x,D)) p (λh=>h) C;have q:=Z<|y.map λh=>h.2;have r:=Z j;have L:=j.lt;have l:=g.size;go_wp2;go_ret;refine Gd.post (g.alloc _) (r.alloc _) q ?_;rintro⟨x,I,J⟩;refine⟨_,J,l,?_⟩;rw[VF (show ¬(eM 100 o [] x).aC=99 from(by decide:¬(100:Int)=99)),VF (show ¬(eM 100 o [] x).aC=105 from(by decide:¬(100:Int)=105)),VG (show(eM 100 o [] x).aC=100 from rfl)];exact⟨_,aM _ _,I.d<|(aH.refl _ _).alloc _⟩
def M8(nm:YX)(aN:Y3)(ts:YV):Option<|aX×YV:=match bX ts with|none=>none|some y=>some (eM 117 nm aN y.1,y.2)
def RK(nm:YX)(ts:YV):Option<|aX×YV:=match bR fh ts with|none=>none|some y=>M8 nm y.1 y.2
def RJ(nm:YX)(ts:YV):Option<|aX×YV:=if (af ts).k=29 then RK nm ts.tail else none
def Jg(b:YV):eA b=if (af b).k=1 then RJ (af b).s b.tail else none:=by
 unfold eA RJ RK;by_cases c:(af b).k=1
 .rw[VG c,VG c];by_cases a:(af b.tail).k=29
  .rw[VG a,VG a];cases hl:bR fh b.tail.tail with
   |none=>rfl
   |some y=>
    simp only[M8];cases bX y.2<;>rfl
  rw[VF a,VF a]
 rw[VF c,VF c]
def QJ{T:YV}(b:Bool)(hR:RC w k T D 0 b):
 Zc prog 98 #[qP k] w (ri w k T b<|eA D):=by
 generalize I:eA D=L;rw[Jg]at I;have U:=Z<|(D5 (b:=b) (b':=b) (spec:=L) (P:=True) RJ (.inl ⟨rfl,trivial⟩) λ_=>I.symm).map λh=>h.2;go_in;go_wp2_with fail;apply qR<|Z<|uA b hR;rintro u⟨H,(z:Ze _)⟩;have J:=H.lt;have p:=z.size;have S:=Z<|mT [29] 1 rfl (by decide) (by decide) (u.heap.size+1) 1 (bx D 1 b) ((H.alloc<|.cells #[.string ⟨(jL D 1).s.toArray⟩,qN,.pointer none] 213).alloc<|.cells #[qI 29] 129) (vu u [29] rfl) (by omega);generalize (jL D 1).s=q at*;go_wp2_with fail;apply qR S;rintro w3⟨t,F⟩;obtain⟨t3,b3,t,ab⟩:=A4 (RK q) U (λh=>h) (by decide) t;have V:=Z<|ab.map λh=>h.2;have A:=Z<|((z.alloc<|.cells #[qT q,qN,.pointer none] 213).alloc<|.cells #[qI 29] 129).trans F;have Y:=Z<|F.q (by omega)<|bA (aM u<|.cells #[qT q,qN,.pointer none] 213)<|.cells #[qI 29] 129;go_wp2_with apply(Z<|Ub 157 (λa w=>by go_simp) fh yY Vi k T t3 b3 w3 t).mono;rintro e Q⟨G,a,n,c,rfl,ae⟩;have d:=G.q (by omega) Y;have s0:=bC d 0;have s1:=bC d 1;have s2:=bC d 2;have sf:=bF d;have ah:=lB d;simp at s0 s1 s2;have K:w.heap.size<=w3.heap.size:=A.size;obtain⟨N,b4,af,ac⟩:=D4 (M8 q) V (λh=>h) ae;have B:=Z<|bS d 1<|.slice a n c;have W:Ze<|Gd b L N b4 (∃aN,iY (Q.setCell ⟨u.heap.size,1,none⟩<|.slice a n c) k w.heap.size 259 2 Tj aN (.slice a n c)/\L=M8 q aN N):=by refine ac.map ?_;rintro⟨_,aN,E,j⟩;exact⟨aN,(E.base K).setOther d (by decide) (by decide) _ _,j⟩
 go_wp2_with refine(Z<|JR k T N b4 _<|af.l J 1<|.slice a n c).mono ?_;rintro e R⟨(l:Ze _),M,rfl,g⟩;have ai:Q.heap.size=(Q.setCell ⟨u.heap.size,1,none⟩<|.slice a n c).heap.size:=(size_set _ _ _).symm;generalize aa:Q.setCell ⟨u.heap.size,1,none⟩ (.slice a n c)=W4 at*;have X:Ze<|aH k w R:=by
  unfold Ze;have:aH k w W4:=by rw[<-aa];exact(Z<|A.trans G).l (by simpa using p) _
  exact this.trans l
 have i:=l.q (by omega) B;have s0:=bC i;have sf:=bF i;have ah:=lB i;have C:Ze (∃O b5,RC R k T O 0 b5/\Gd b L O b5 (∃aN x,iY R k w.heap.size 259 2 Tj aN (.slice a n c)/\cE R k x (.pointer M)/\L=some (eM 117 q aN x,O))):=by
  unfold Ze;obtain⟨rfl,aN,E,j⟩|⟨rfl,rfl,hs⟩:=W.o
  .unfold M8 at j;cases hv:bX N with
   |none=>rw[hv]at j g;exact⟨[],true,g,.inr ⟨rfl,rfl,j⟩⟩
   |some y=>
    obtain⟨x,r⟩:=y;rw[hv]at j g;exact⟨r,b4,g.2,.inl ⟨rfl,aN,x,E.d l hR.lt,g.1,j⟩⟩
  cases hv:bX []with
  |none=>rw[hv]at g;exact⟨[],true,g,.inr ⟨rfl,rfl,hs⟩⟩
  |some y=>
   rw[hv]at g;have j:=g.2;rw[ME j]at j;exact⟨[],true,j,.inr ⟨rfl,rfl,hs⟩⟩
 have o:=Z i;go_wp2;go_ret;obtain⟨O,b5,ag,ad⟩:=C.o;refine Gd.post (X.l p _) (ag.l J 2 _) ad ?_;rintro⟨aN,x,E,j,h3⟩;refine⟨_,h3,p,?_⟩;rw[VF (show ¬(eM 117 q aN x).aC=99 from(by decide:¬(117:Int)=99)),VF (show ¬(eM 117 q aN x).aC=105 from(by decide:¬(117:Int)=105)),VF (show ¬(eM 117 q aN x).aC=100 from(by decide:¬(117:Int)=100)),VG (show(eM 117 q aN x).aC=117 from rfl)];refine⟨.slice a n c,.pointer M,?_,E.setOther o (by decide) (by decide) _ _,j.setOther o (by decide) _ _⟩;show _=some (Obj.cells #[qT q,.slice a n c,.pointer M] 213);simpa using bS o.o 2 (.pointer M)
def Vt(dis all:Bool)(aD bl:Y3)(wh:aA)(el:Y3)(ts:YV):Option<|aX×YV:=ik dis all aD bl wh el ts
def Tg(dis all:Bool)(aD bl:Y3)(wh:aA)(ts:YV):Option<|aX×YV:=match eT ts with|none=>none|some y=>Vt dis all aD bl wh y.1 y.2
def Tf(dis all:Bool)(aD bl:Y3)(ts:YV):Option<|aX×YV:=match bX ts with|none=>none|some y=>Tg dis all aD bl y.1 y.2
def TS(dis all:Bool)(aD:Y3)(ts:YV):Option<|aX×YV:=match Fg (dn ts)with|none=>none|some y=>Tf dis all aD y.1 y.2
def Mp(dis all:Bool)(aD:Y3)(ts:YV):Option<|aX×YV:=if (af ts).k=26 then TS dis all aD ts.tail else none
def Gz(b a:Bool)(e:Y3)(d:YV):kA b a e d=Mp b a e d:=by
 unfold kA Mp TS;by_cases h:(af d).k=26
 .rw[VG h,VG h];cases hs:dn d.tail with
  |none=>rfl
  |some z=>
   simp only[mC,Fg];by_cases c:3<z.1.length
   .rw[VG c,VG c]
   rw[VF c,VF c];simp only[kR,Tf];cases hw:bX z.2 with
   |none=>rfl
   |some y=>
    simp only[nO,Tg];cases hk:eT y.2 with
    |none=>rfl
    |some x=>rfl
 rw[VF h,VF h]
def DR(w:Za)(rb base:Nat)(all:Bool)(aD:Y3)(u:Zb):Prop:=if all=true then u=qN else iY w rb base 199 1 Qy aD u
def DR.d{a:Y3}(d:aH n w W)(c:n<k)(h:DR w n k b a u):DR W n k b a u:=by
 unfold DR at*;cases b
 .exact iY.d d c h
 exact h
def DR.setOther{a:Y3}{C:Y_}(h:DR w n i b a u)(c:w.heap[k]?=some (.cells C 229))(o:Nat)(x:Zb):DR (w.setCell ⟨k,o,none⟩ x) n i b a u:=by
 unfold DR at*;cases b
 .exact iY.setOther h c (by decide) (by decide) o x
 exact h
def Ly{T:YV}(h:RC w n T D k b):∀t∈D,t∈T:=by intro t a;rw[<-h.drop.1]at a;exact WI a
def Sn{T:YV}(g:∀t∈D,t∈T)(c:∀t∈T,t.k=2->0<=t.n){z:Int×Int}(h:dR D=some (z,E)):(if z.1=-1/\(af D).k≠39 then (9223372036854775807:Int)else z.1)=if z.1=-1 then 9223372036854775807 else z.1:=by
 by_cases b:(af D).k=39
 ·have e:z.1≠-1:=by
   unfold dR at h;rw[VG b]at h;by_cases a:(af D.tail).k=2
   ·rw [VG a]at h;have d:af D.tail∈T:=by
     cases hq:D.tail with
     |nil=>rw[hq]at a;cases a
     |cons q l=>exact g q<|YI (by rw[hq];simp)
    have i:=c _ d a;split at h
    .split at h
     .cases h;show(af D.tail).n≠-1;omega
     cases h
    cases h;show(af D.tail).n≠-1;omega
   rw[VF a]at h;cases h
  rw[VF λh=>e h.1,VF e]
 by_cases a:z.1=-1
 .rw[VG ⟨a,b⟩,VG a]
 rw[VF λh=>a h.1,VF a]
def Js{T:YV}(b:Bool)(c:RC w n T D 0 b)(a:∀t∈T,t.k=2->0<=t.n):
 Zc prog 99 #[qP n] w (ri w n T b<|ck D):=by
 have hz:=c.lt;have g:=Z<|fO 31 (by decide) n T D 0 b w c;have aB:=Z a;clear c a;have a:tl D 31=gF D/\hk D 31=((af D).k==31):=by unfold tl hk gF;simp
 rw[a.1]at g;generalize d:ck D=j;generalize hk D 31=c at*;have aw:Ze<|(match eZ (gF D)with|none=>none|some z=>Mp c z.1.1 z.1.2 z.2)=j:=by
  unfold Ze;rw[<-d,a.2];unfold ck;cases eZ (gF D)with
  |none=>rfl
  |some z=>simp only[Gz]
 generalize gF D=t0 at*;clear d a;go_in;go_wp2_with apply(U g).mono;rintro e u⟨rfl,a,(ad:Ze _)⟩;have J:=a.lt;have l:=ad.size;have d:=Z<|fO 17 (by decide) n T t0 0 b _<|a.alloc<|.cells #[.bool c,qN,qN,.pointer none,qN,qI 0,qI 0] 229;clear a g;by_cases a:(af t0).k=17
 focus
  have g:=nE a;rw[g,(eg (b:=b) g).2.2.2]at d;have ag:Ze<|j=Mp c true [] t0.tail:=by unfold Ze;rw[<-aw.o];unfold eZ;rw[VG a]
  clear g a;go_wp2_with apply(U d).mono;rintro e W⟨rfl,h,i⟩;have ae:=Z<|(ad.o.alloc<|.cells #[.bool c,qN,qN,.pointer none,qN,qI 0,qI 0] 229).trans i;have r:Ze (∃C O b3,W.heap[u.heap.size]?=some (.cells #[.bool c,C,qN,.pointer none,qN,qI 0,qI 0] 229)/\RC W n T O 0 b3/\Gd b j O b3 (∃all aD,DR W n w.heap.size all aD C/\j=Mp c all aD O)):=⟨_,_,_,i.q (by omega)<|aM u<|.cells #[.bool c,qN,qN,.pointer none,qN,qI 0,qI 0] 229,h,.inl ⟨rfl,true,[],rfl,ag.o⟩⟩;clear i h d;go_wp2_with fail
 rotate_left
 focus
  have g:=nN a;rw[g,(fC (b:=b) g).2.2.2]at d;have ag:Ze<|j=match bR dc t0 with|none=>none|some y=>Mp c false y.1 y.2:=by unfold Ze;rw[<-aw.o];unfold eZ;rw[VF a];cases bR dc t0<;>rfl
  clear g a;go_wp2_with apply(U d).mono;rintro e w2⟨rfl,h,g⟩;have aa:=Z<|(ad.o.alloc<|.cells #[.bool c,qN,qN,.pointer none,qN,qI 0,qI 0] 229).trans g;have p:=g.q (by omega)<|aM u<|.cells #[.bool c,qN,qN,.pointer none,qN,qI 0,qI 0] 229;have ap:=Z p;have x:=Z<|Q7 154 (λa w=>by go_simp) dc o6 Ui n T t0 b w2 h;clear g p h d;go_wp2_with apply(U x).mono;rintro e w4⟨i,a4,n4,c4,rfl,F⟩;have d:=i.q (by omega) ap.o;have K:=bC d 1;have sf:=bF d;have B:=lB d;simp at K;have ae:Ze<|aH n w<|w4.setCell ⟨u.heap.size,1,none⟩<|.slice a4 n4 c4:=(aa.o.trans i).l l _;have G:=bS d 1<|.slice a4 n4 c4;obtain⟨O,b3,h,o⟩:=D4 (b:=b) (b':=b) (ts:=t0) (spec:=j) (P:=True) (λaN D=>Mp c false aN D) (.inl ⟨rfl,trivial⟩) (λ_=>ag.o) F;replace h:=h.l J 1<|.slice a4 n4 c4;have E:=o.map λ⟨_,aN,q,g⟩=>(⟨false,aN,(q.base aa.o.size).setOther d (by decide) (by decide) _ _,g⟩:∃all aD,DR (w4.setCell ⟨u.heap.size,1,none⟩<|.slice a4 n4 c4) n w.heap.size all aD (.slice a4 n4 c4)/\j=Mp c all aD O);go_wp2_with fail;generalize H:w4.setCell ⟨u.heap.size,1,none⟩ (.slice a4 n4 c4)=W at*;have A:w4.heap.size=W.heap.size:=by rw[<-H,size_set]
  rw[A];have r:Ze (∃C O b3,W.heap[u.heap.size]?=some (.cells #[.bool c,C,qN,.pointer none,qN,qI 0,qI 0] 229)/\RC W n T O 0 b3/\Gd b j O b3 (∃all aD,DR W n w.heap.size all aD C/\j=Mp c all aD O)):=⟨_,O,b3,G,h,E⟩;clear i d F x G h o E K sf B H A
 all_goals
  obtain⟨C,O,b3,p,h,o⟩:=r.o;have aF:=Z p;have A:=Z o;clear r o p;have aI:=h.lt;have aG:w.heap.size<=W.heap.size:=ae.o.size;have p:=Z<|mT [26] 1 rfl (by decide) (by decide) W.heap.size 1 b3 (h.alloc<|.cells #[qI 26] 129) (gM W [26] _ rfl) (by omega);clear h;apply(U p).mono;rintro e w5⟨rfl,o,x⟩;have d:=((aH.refl n W).alloc<|.cells #[qI 26] 129).trans x;have ab:=Z<|ae.o.trans d;have aq:=Z<|d.q (by omega) aF.o;obtain⟨t5,b5,o,r⟩:=D6 (k:=26) A.o (λh hn=>by obtain⟨_,_,_,h⟩:=h;rw[h,Mp,VF hn]) (by decide) o
  have E:Ze<|Gd b j t5 b5 (∃ all aD,DR w5 n w.heap.size all aD C/\j=TS c all aD t5):=r.map (λh=>by
   obtain⟨⟨all,aD,q,g⟩,i,rfl⟩:=h
   exact⟨all,aD,q.d d hz,by rw[g,Mp,VG i]⟩)
  have M:=Z<|OJ b5 o;clear o x d r p;go_wp2_with apply(U M).mono;rintro e w6⟨p,F,H,G,rfl,o⟩;have d:=p.q (by omega) aq.o;have Q:=bC d 0;have K:=bC d 1;have R:=bC d 2;have S:=bC d 3;have V:=bC d 4;have X:=bC d 5;have Y:=bC d 6;have sf:=bF d;have B:=lB d;simp at Q K R S V X Y;have I:Ze (∃t6 b6,RC w6 n T t6 0 b6/\Gd b j t6 b6 (∃all aD bl,DR w6 n w.heap.size all aD C/\iY w6 n w.heap.size 324 4 EA bl (.slice F H G)/\j=Tf c all aD bl t6)):=by
   unfold Ze;rcases E.o with⟨rfl,all,aD,q,g⟩|⟨rfl,rfl,hs⟩
   .unfold TS at g;cases hv:Fg (dn t5)with
    |none=>rw[hv]at g o;exact⟨[],true,o,.inr ⟨rfl,rfl,g⟩⟩
    |some y=>
     obtain⟨x,r⟩:=y;rw[hv]at g o;exact⟨r,b5,o.2,.inl ⟨rfl,all,aD,x,q.d p hz,o.1.base ab.o.size,g⟩⟩
   cases hv:Fg (dn [])with
   |none=>rw[hv]at o;exact⟨[],true,o,.inr ⟨rfl,rfl,hs⟩⟩
   |some y=>
    rw[hv]at o;have g:=o.2;rw[ME g]at g;exact⟨[],true,g,.inr ⟨rfl,rfl,hs⟩⟩
  obtain⟨t6,b6,az,ax⟩:=I.o;have N:=Z<|JR n T t6 b6 _<|az.l J 2<|.slice F H G;have ar:=Z<|bS d 2<|.slice F H G;have ak:Ze<|aH n w<|w6.setCell ⟨u.heap.size,2,none⟩<|.slice F H G:=(Z<|ab.o.trans p).o.l l _
  have L:Ze<|Gd b j t6 b6 (∃ all aD bl,DR (w6.setCell ⟨u.heap.size,2,none⟩<|.slice F H G) n w.heap.size all aD C/\iY (w6.setCell ⟨u.heap.size,2,none⟩<|.slice F H G) n w.heap.size 324 4 EA bl (.slice F H G)/\j=Tf c all aD bl t6):=ax.map (λh=>by
   obtain⟨all,aD,bl,q,g,i⟩:=h
   exact⟨all,aD,bl,q.setOther d _ _,g.setOther d (by decide) (by decide) _ _,i⟩)
  clear p o d az ax I M E A;go_wp2_with apply(U N).mono;rintro e w7⟨A,I,rfl,p⟩;have d:=A.q (by omega) ar.o;clear Q K R S V X Y sf B;have Q:=bC d 0;have K:=bC d 1;have R:=bC d 2;have S:=bC d 3;have V:=bC d 4;have X:=bC d 5;have Y:=bC d 6;have sf:=bF d;have B:=lB d;simp at Q K R S V X Y;have E:Ze (∃t7 b7,RC w7 n T t7 0 b7/\Gd b j t7 b7 (∃all aD bl o,DR w7 n w.heap.size all aD C/\iY w7 n w.heap.size 324 4 EA bl (.slice F H G)/\cE w7 n o (.pointer I)/\j=Tg c all aD bl o t7)):=by
   unfold Ze;rcases L.o with⟨rfl,all,aD,bl,q,g,i⟩|⟨rfl,rfl,hs⟩
   .unfold Tf at i;cases hv:bX t6 with
    |none=>rw[hv]at i p;exact⟨[],true,p,.inr ⟨rfl,rfl,i⟩⟩
    |some y=>
     obtain⟨x,r⟩:=y;rw[hv]at i p;exact⟨r,b6,p.2,.inl ⟨rfl,all,aD,bl,x,q.d A hz,g.d A hz,p.1,i⟩⟩
   cases hv:bX []with
   |none=>rw[hv]at p;exact⟨[],true,p,.inr ⟨rfl,rfl,hs⟩⟩
   |some y=>
    rw[hv]at p;have g:=p.2;rw[ME g]at g;exact⟨[],true,g,.inr ⟨rfl,rfl,hs⟩⟩
  obtain⟨t7,b7,aA,M⟩:=E.o;have an:=Z<|Qg b7<|aA.l J 3<|.pointer I;have au:=Z<|bS d 3<|.pointer I;have ac:Ze<|aH n w<|w7.setCell ⟨u.heap.size,3,none⟩<|.pointer I:=(Z<|ak.o.trans A).o.l l _
  have ah:Ze<|Gd b j t7 b7 (∃ all aD bl o,DR (w7.setCell ⟨u.heap.size,3,none⟩<|.pointer I) n w.heap.size all aD C/\iY (w7.setCell ⟨u.heap.size,3,none⟩<|.pointer I) n w.heap.size 324 4 EA bl (.slice F H G)/\cE (w7.setCell ⟨u.heap.size,3,none⟩<|.pointer I) n o (.pointer I)/\j=Tg c all aD bl o t7):=M.map (λh=>by
   obtain⟨all,aD,bl,o,q,g,h4,i⟩:=h
   exact⟨all,aD,bl,o,q.setOther d _ _,g.setOther d (by decide) (by decide) _ _,h4.setOther d (by decide) _ _,i⟩)
  clear A p d aA M E N L;go_wp2_with apply(U an).mono;rintro e w8⟨A,L,N,M,rfl,p⟩;have d:=A.q (by omega) au.o;clear Q K R S V X Y sf B;have Q:=bC d 0;have K:=bC d 1;have R:=bC d 2;have S:=bC d 3;have V:=bC d 4;have X:=bC d 5;have Y:=bC d 6;have sf:=bF d;have B:=lB d;simp at Q K R S V X Y;have ao:Ze (∃t8 b8,RC w8 n T t8 0 b8/\Gd b j t8 b8 (∃all aD bl o el,DR w8 n w.heap.size all aD C/\iY w8 n w.heap.size 324 4 EA bl (.slice F H G)/\cE w8 n o (.pointer I)/\iY w8 n w.heap.size 328 2 Qx el (.slice L N M)/\j=ik c all aD bl o el t8)):=by
   unfold Ze;rcases ah.o with⟨rfl,all,aD,bl,o,q,g,h4,i⟩|⟨rfl,rfl,hs⟩
   .unfold Tg at i;cases hv:eT t7 with
    |none=>rw[hv]at i p;exact⟨[],true,p,.inr ⟨rfl,rfl,i⟩⟩
    |some y=>
     obtain⟨x,r⟩:=y;rw[hv]at i p;exact⟨r,b7,p.2,.inl ⟨rfl,all,aD,bl,o,x,q.d A hz,g.d A hz,h4.d A,p.1.base ac.o.size,i⟩⟩
   cases hv:eT []with
   |none=>rw[hv]at p;exact⟨[],true,p,.inr ⟨rfl,rfl,hs⟩⟩
   |some y=>
    rw[hv]at p;have g:=p.2;rw[ME g]at g;exact⟨[],true,g,.inr ⟨rfl,rfl,hs⟩⟩
  obtain⟨t8,b8,E,ay⟩:=ao.o;have am:=Z<|So b8<|E.l J 4<|.slice L N M;have av:=Z<|bS d 4<|.slice L N M;have al:Ze<|aH n w<|w8.setCell ⟨u.heap.size,4,none⟩<|.slice L N M:=(Z<|ac.o.trans A).o.l l _;have aC:=Z<|Ly E
  have ai:Ze<|Gd b j t8 b8 (∃ all aD bl o el,DR (w8.setCell ⟨u.heap.size,4,none⟩<|.slice L N M) n w.heap.size all aD C/\iY (w8.setCell ⟨u.heap.size,4,none⟩<|.slice L N M) n w.heap.size 324 4 EA bl (.slice F H G)/\cE (w8.setCell ⟨u.heap.size,4,none⟩<|.slice L N M) n o (.pointer I)/\iY (w8.setCell ⟨u.heap.size,4,none⟩<|.slice L N M) n w.heap.size 328 2 Qx el (.slice L N M)/\j=ik c all aD bl o el t8):=ay.map (λh=>by
   obtain⟨all,aD,bl,o,el,q,g,h4,h5,i⟩:=h
   exact⟨all,aD,bl,o,el,q.setOther d _ _,g.setOther d (by decide) (by decide) _ _,h4.setOther d (by decide) _ _,h5.setOther d (by decide) (by decide) _ _,i⟩)
  clear A p d E ay ao an ah;go_wp2_with apply(U am).mono;rintro e w9⟨E,l9,o9,rfl,p⟩;have aj:=Z<|al.o.trans E;have d:=E.q (by omega) av.o;clear Q K R S V X Y sf B;have Q:=bC d 0;have K:=bC d 1;have R:=bC d 2;have S:=bC d 3;have V:=bC d 4;have X:=bC d 5;have Y:=bC d 6;have sf:=bF d;have B:=lB d;simp at Q K R S V X Y;have A:=Z d;have aE:Ze (∃t9 b9,RC w9 n T t9 0 b9/\Gd b j t9 b9 (∃all aD bl o el,∃z:Int×Int,DR w9 n w.heap.size all aD C/\iY w9 n w.heap.size 324 4 EA bl (.slice F H G)/\cE w9 n o (.pointer I)/\iY w9 n w.heap.size 328 2 Qx el (.slice L N M)/\l9=(if z.1=-1 then 9223372036854775807 else z.1)/\o9=z.2/\j=some (⟨115,[],aD,bl,o,el,c,all,z.1,z.2⟩,t9))):=by
   unfold Ze;rcases ai.o with⟨rfl,all,aD,bl,o,el,q,g,h4,h5,i⟩|⟨rfl,rfl,hs⟩
   .unfold ik at i;cases hv:dR t8 with
    |none=>rw[hv]at i p;exact⟨[],true,p,.inr ⟨rfl,rfl,i⟩⟩
    |some y=>
     obtain⟨z,r⟩:=y;rw[hv]at i p;obtain⟨x,k2,k3⟩:=p;exact⟨r,b8,k3,.inl ⟨rfl,all,aD,bl,o,el,z,q.d E hz,g.d E hz,h4.d E,h5.d E hz,by rw[x];exact Sn aC.o aB.o hv,k2,i⟩⟩
   cases hv:dR []with
   |none=>rw[hv]at p;exact⟨[],true,p,.inr ⟨rfl,rfl,hs⟩⟩
   |some y=>
    rw[hv]at p;have g:=p.2.2;rw[ME g]at g;exact⟨[],true,g,.inr ⟨rfl,rfl,hs⟩⟩
  clear E p d am ai;go_wp2;go_ret;obtain⟨t9,b9,E,p⟩:=aE.o;refine Gd.post ((aj.o.l l _).l l _) ((E.l J 5 _).l J 6 _) p ?_;rintro⟨all,aD,bl,o,el,z,q,g,h4,h5,h6,h7,i⟩;refine⟨_,i,l,?_⟩;rw[VF (by show ¬(115:Int)=99;decide),VF (by show ¬(115:Int)=105;decide),VF (by show ¬(115:Int)=100;decide),VF (by show ¬(115:Int)=117;decide)];have d:=bS A.o 5<|qI l9;refine⟨C,.slice F H G,.pointer I,.slice L N M,?_,(q.setOther A.o _ _).setOther d _ _,(g.setOther A.o (by decide) (by decide) _ _).setOther d (by decide) (by decide) _ _,(h4.setOther A.o (by decide) _ _).setOther d (by decide) _ _,(h5.setOther A.o (by decide) (by decide) _ _).setOther d (by decide) (by decide) _ _⟩;show _=some (Obj.cells #[.bool c,C,.slice F H G,.pointer I,.slice L N M,qI (if z.1=-1 then 9223372036854775807 else z.1),qI z.2] 229);rw[<-h6,<-h7];simpa using bS d 6 (qI o9)
