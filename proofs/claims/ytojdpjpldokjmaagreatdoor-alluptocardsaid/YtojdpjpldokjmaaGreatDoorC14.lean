import Derived.Test.YtojdpjpldokjmaaGreatDoorC02
import Derived.Test.YtojdpjpldokjmaaGreatDoorC03
set_option maxHeartbeats 0
set_option maxRecDepth 100000
set_option linter.all false
namespace Go.Proofs.YtojdpjpldokjmaaGreatDoor
open Go.Deep Go.RowKit Tryz
open Go renaming World->Za,Value->Zb,Calls->Zc,Ending->Zg,results->Zh
open RowKit renaming Below->Zd,Hid->Ze,intOf->Zk
variable{i j k n:Nat}{W w:World}{X:YX}{b:Bool}{A u z:Value}{D:YV}{R:aA}
def Q0(a:Za)(n:Int):(convert 83 9<|qL a.heap.size 1 1).run prog (a.alloc<|.cells #[.int .u8 n] 5)=.ok (.string ⟨#[UInt8.ofNat n.toNat]⟩) (a.alloc<|.cells #[.int .u8 n] 5):=by
 have h:=run_convert_bytes_arg (P:=prog) (a.alloc<|.cells #[.int .u8 n] 5) 83 5 underlying83 underlying5 a.heap.size 0 1 1 [n] rfl (by
  intro i hi;have:i=0:=by omega
  subst this
  simp) 9 underlying9
 rw[h];simp[strOfNums]
def Iz(s:Y9)(h:k<s.size){x:UInt8}(a:x=fU s[k]):
 Zb.string (({data:=(List.take k<|List.map fU s.data.toList).toArray}:Y9)++{data:=#[x]})=qT ((s.data.toList.take<|k+1).map fU):=by
 have:=ByteArray.mk_append_mk (List.take k<|List.map fU s.data.toList) [x];rw[show(#[x]:Array UInt8)=[x].toArray from rfl,this,DB s k h];simp[a]
def UQ{c:UInt8}(a:(97:Int)<=c.toNat)(b:(c.toNat:Int)<=122):UInt8.ofNat (c.toNat-32)=fU c:=by rw[fU,VG<|by omega]
def UR{c:UInt8}(h:¬((97:Int)<=c.toNat/\(c.toNat:Int)<=122)):c=fU c:=by rw[fU,VF<|by omega]
def Lm(s:Y9)(c:s.size<=10):
 Zc prog 188 #[.string s] w (qF (qT<|s.data.toList.map fU) w):=by
 have d:=Q0;go_in;go_wp2
 go_loopw [3,4] (λo i wr=>∃k:Nat,k<=s.size/\i=qI k/\o=qT ((s.data.toList.take k).map fU)/\qB w wr) (λ_ i _=>s.size-(Zk i).toNat)
 exact⟨0,qO,rfl,rfl,qW⟩
 case round=>
  obtain⟨k,hk,rfl,rfl,a⟩:=hrel;by_cases b:k<s.size
  ·go_wp2;all_goals
    go_roundw;exact⟨k+1,by omega,by go_num,Iz s b<|by first|exact UQ ‹_› ‹_›|exact UR (by omega),a.alloc a.size _⟩
    case measure=>simp[Zk];omega
  go_wp2;go_ret;exact⟨i5<|by rw[VX (by simp;omega)],a⟩
def Kg:Y_:=((gA.drop 20).map λl=>qT l).toArray
def xh  :
 Zc prog 189 #[] w λe a=>∃b,e=.returned (qL b 31 31)/\w.heap.size<=b/\b<a.heap.size/\(∀i,i<31->a.cell? ⟨b,i,none⟩=some (qT<|bt<|20+i))/\qB w a:=by
 go_in;go_wp2;go_ret;refine⟨w.heap.size,rfl,qZ,by simp,?_,qA⟩;intro i hi;rw[Za.cell?_alloc_at (hn:=rfl)];refine(Wd (λA:Y_=>A[i]?) (show _=Kg from rfl)).trans ?_;unfold Kg bt;simp only[XZ,VO,Xa,Wm];rw[VE (by simp[gA];omega)];rfl
def Hw(l:YX)(e:k<31)(a:∀j,j<k->bt (20+j)≠l.map fU)(b:bt (20+k)=l.map fU):
 cU (da l)=.agg #[.int .u8 107,qT<|l.map fU,qI 0]:=by
 have d:nC (l.map fU)=some k:=o_ qO (by omega) (λj _ c=>a j c) b;unfold da;rw[d];simp only[cU,gj,bG,cA,gT];rw[VF<|by omega,VF<|by omega,VF<|by omega,VF<|by omega,VF<|by omega,VG<|by omega,VF<|by omega,VF<|by omega,b]
def ET(l:YX)(a:∀j,j<31->bt (20+j)≠l.map fU)(d:l.length<=10):
 cU (da l)=.agg #[.int .u8 119,qT l,qI 0]:=by
 have b:nC (l.map fU)=none:=lX λj _ c=>a j (by omega);unfold da;rw[b];simp only;rw[VF<|by omega];rfl
def ES(l:YX)(a:10<l.length):
 cU (da l)=.agg #[.int .u8 120,.string ⟨#[]⟩,qI 0]:=by
 have b:nC (l.map fU)=none:=Ef (by simp;omega);unfold da;rw[b];simp only;rw[VG a];rfl
def O7{s:Y9}:
 Zc prog 130 #[.string s] w (qF (cU<|da s.data.toList) w):=by
 by_cases hs:s.size<=10
 .go_in;go_wp2_with fail;apply qR<|Lm s hs;intro u b;go_wp2_with apply xh.mono;rintro e o⟨kb,rfl,r,t,a,c⟩;obtain⟨c1,x⟩:=dN b;obtain⟨c2,y⟩:=dN c;have p:w.heap.size<u.heap.size:=by have:=b.size;simp at this;omega
  have z:w.heap.size<o.heap.size:=by have:=c.size;omega
  have g:qB w o:=(qA.trans<|b.mono<|by simp).trans<|c.mono (by omega);go_wp2
  go_loop [5] (λi=>∃k:Nat,k<=31/\i=qI k/\∀j,j<k->bt (20+j)≠s.data.toList.map fU) (λi=>31-(Zk i).toNat)
  exact⟨0,qO,rfl,λj n=>by omega⟩;obtain⟨k,hk,rfl,d⟩:=hrel;by_cases h:k<31
  .have q:=a k h;cases l:(bt (20+k)==s.data.toList.map fU)
   .go_wp2;go_round
    case rel=>exact ⟨k+1,by omega,by go_num,λj n=>by
     by_cases e:j=k
     .subst e;simpa using l
     .exact d j<|by omega⟩
    simp[Zk];omega
   go_wp2;refine VI (v:=.agg #[.int .u8 107,qT<|s.data.toList.map fU,qI 0]) ?_ rfl ⟨?_,?_⟩
   .simp[Zh,results130,go_sem,c1,c2,p]
   .rw[Hw s.data.toList h d<|by simpa using l]
   exact((g.setCell qZ _).setCell qZ _).setCell qZ _
  clear a;go_wp2;refine VI (v:=.agg #[.int .u8 119,.string s,qI 0]) ?_ rfl ⟨?_,?_⟩
  .simp[Zh,results130,go_sem,c1,c2,p]
  .rw[ET s.data.toList (λj n=>d j<|by omega)<|by simpa using hs]
  exact((g.setCell qZ _).setCell qZ _).setCell qZ _
 .go_in;go_wp2_with apply xh.mono;rintro e g⟨kb,rfl,j,l,a,b⟩;obtain⟨c2,n⟩:=dN b;have p:w.heap.size<g.heap.size:=by have:=b.size;simp at this;omega
  have c:qB w g:=(qA).trans<|b.mono (by simp);go_wp2
  go_loop [5] (λi=>∃k:Nat,k<=31/\i=qI k) (λi=>31-(Zk i).toNat)
  exact⟨0,qO,rfl⟩;obtain⟨k,hk,rfl⟩:=hrel;by_cases d:k<31
  .have h:=a k d;have o:(bt<|20+k).isEmpty=false:=by simpa using G7 (20+k) (by omega) (by omega)
   go_wp2;go_round;exact⟨k+1,by omega,by go_num⟩;simp[Zk];omega
  clear a;go_wp2;refine VI (v:=.agg #[.int .u8 120,.string ⟨#[]⟩,qI 0]) ?_ rfl ⟨?_,?_⟩
  .simp[Zh,results130,go_sem,c2]
  .rw[ES s.data.toList (by simp;omega)]
  exact((c.setCell qZ _).setCell qZ _).setCell qZ _
def N6{s:Y9}{m v:Int}(a:k<s.size)(c:Ze<|ji X (aq s k) m b)(d:Ze<|aQ s[k]=true)(g:v=10*m+(s[k].toNat-48))(e:v<=9223372036854775807):
 ji X (aq s<|k+1) v b:=by
 have h:=c.o;rw[cJ s k a]at h;subst g;exact Cs h d e
def LD{s:Y9}{m v:Int}(a:k<s.size)(c:Ze<|ji X (aq s k) m b)(d:Ze<|aQ s[k]=true)(g:v=s[k].toNat-48)(e:9223372036854775807<10*m+(s[k].toNat-48)):
 ji X (aq s<|k+1) v true:=by
 have h:=c.o;rw[cJ s k a]at h;subst g;exact Bn h d e
def Kq{s:Y9}{m:Int}(a:Ze<|ji X (aq s k) m b)(c:¬k<s.size\/∃h:k<s.size,aQ s[k]=false):
 aq s k=X.dropWhile aQ/\ed (X.takeWhile aQ)=if b=true then dF else ⟨2,m,[]⟩:=by
 refine Em a ?_;obtain h|⟨h,hd⟩:=c
 .exact .inl<|gK s k<|by omega
 .exact .inr ⟨_,_,cJ s k h,hd⟩
def Gr(s:Y9)(x:i<=s.size)(y:s.size<=1048576):
 Zc prog 131 #[.string s,qI i] w λe l=>∃q:Nat,e=.returned (.tuple #[cU<|ed<|(aq s i).takeWhile aQ,qI q])/\i<=q/\q<=s.size/\aq s q=(aq s i).dropWhile aQ/\qB w l:=by
 go_in;go_wp2
 go_loop [1,6,7] (λa n b=>∃(k:Nat) (m:Int) (t:Bool),i<=k/\k<=s.size/\a=qI k/\n=qI m/\b=.bool t/\ji (aq s i) (aq s k) m t) (λa _ _=>s.size-(Zk a).toNat)
 exact⟨i,0,false,qZ,x,rfl,rfl,rfl,Bp⟩
 case round=>
  obtain⟨k,m,t,hk,d,rfl,rfl,rfl,j⟩:=hrel;have r:0<=m:=j.2.1;have u:m<=9223372036854775807:=j.2.2.1;have g:Ze<|ji (aq s i) (aq s k) m t:=j;by_cases c:k<s.size
  .cases hd:aQ s[k]
   ·have h:=Kq g<|.inr ⟨c,hd⟩;have o:Ze<|aq s k=(aq s i).dropWhile aQ:=h.1;have p:Ze<|ed ((aq s i).takeWhile aQ)=if t=true then dF else ⟨2,m,[]⟩:=h.2;cases t;all_goals
     go_wp2_with (go_at_call 129;apply jQ.mono;rintro e l⟨rfl,rfl⟩);refine VI (v:=.tuple #[cU<|ed<|(aq s i).takeWhile aQ,qI k]) ?_ rfl ⟨k,rfl,hk,d,o,(qA)⟩;rw[p];simp[Zh,results131,go_sem,cU,gj,bG,cA,gT,dF,bt,gA]
   have o:(48:Int)<=s[k].toNat:=by have:=(gg _).1 hd;omega
   have p:(s[k].toNat:Int)<=57:=by have:=(gg _).1 hd;omega
   have h:Ze<|aQ s[k]=true:=hd;go_wp2_with (go_at_call 129;apply jQ.mono;rintro e l⟨rfl,rfl⟩);all_goals
    go_round;exact⟨k+1,_,_,by omega,by omega,by go_num,rfl,rfl,by first|exact N6 c g h (by omega) (by omega)|exact LD c g h (by omega) (by omega)⟩
    case measure=>simp[Zk];omega
  have h:=Kq g<|.inl c;have o:Ze<|aq s k=(aq s i).dropWhile aQ:=h.1;have p:Ze<|ed ((aq s i).takeWhile aQ)=if t=true then dF else ⟨2,m,[]⟩:=h.2;clear h;cases t;all_goals
   go_wp2_with refine VI (v:=.tuple #[cU<|ed<|(aq s i).takeWhile aQ,qI k]) ?_ rfl ⟨k,rfl,hk,d,o,(qA)⟩;rw[p];simp[Zh,results131,go_sem,cU,gj,bG,cA,gT,dF,bt,gA]
def oU(s:Y9)(p k:Nat)(acc:YX):Prop:=bj [] (aq s p)=bj acc (aq s k)
def Lt{s:Y9}(a:k<s.size)(h:oU s n k X)(b:s[k].toNat≠39):oU s n (k+1)<|X++[s[k]]:=by
 unfold oU at*;rw[h,cJ s k a];by_cases c:k+1<s.size
 .rw[cJ s (k+1) c,bj,VF b]
 rw[gK s (k+1)<|by omega];simp[bj,b]
def P5{s:Y9}(a:k+1<s.size)(h:oU s n k X)(b:s[k].toNat=39)(c:s[k+1].toNat=39):oU s n (k+2)<|X++[s[k]]:=by unfold oU at*;rw[h,cJ s k<|by omega,cJ s (k+1) a,bj,VG b,VG c]
def Kj{s:Y9}(b:k<s.size)(h:oU s n k X)(c:s[k].toNat=39)(a:¬k+1<s.size\/∃h:k+1<s.size,s[k+1].toNat≠39):
 bj [] (aq s n)=(if 40<X.length then dF else ⟨3,0,X⟩,aq s<|k+1):=by
 unfold oU at h;rw[h,cJ s k b];obtain a|⟨d,a⟩:=a
 .rw[gK s (k+1)<|by omega,bj,VG c]
 .rw[cJ s (k+1) d,bj,VG c,VF a]
def NK{s:Y9}(a:¬k<s.size)(h:oU s n k X):bj [] (aq s n)=(dF,aq s k):=by unfold oU at h;rw[h,gK s k<|by omega,bj]
def Gj(s:Y9)(E:n<s.size)(F:s.size<=1048576):
 Zc prog 132 #[.string s,.int .i64 n] w λe C=>∃q:Nat,e=.returned (.tuple #[cU (bj []<|aq s<|n+1).1,.int .i64 q])/\n<=q/\q<=s.size/\aq s q=(bj []<|aq s<|n+1).2/\Zd w.heap.size w C:=by
 have G:=Q0;go_in;go_wp2
 go_loopw [6,7] (λo i wr=>∃(k:Nat) (a:YX),n<k/\k<=s.size/\a.length<=k/\o=qT a/\i=qI k/\oU s (n+1) k a/\wr.cell? ⟨w.heap.size,0,none⟩=some (.int .u8 0)/\wr.cell? ⟨w.heap.size,1,none⟩=some (.string ⟨#[]⟩)/\wr.cell? ⟨w.heap.size,2,none⟩=some (qI 0)/\(∀o,wr.frozen? ⟨w.heap.size,o,none⟩=false)/\w.heap.size<wr.heap.size/\qB w wr) (λ_ i _=>s.size-(Zk i).toNat)
 exact⟨n+1,[],by omega,by omega,by simp,rfl,by go_num,rfl,by simp,by simp,by simp,by simp,by simp,qA⟩
 case round=>
  obtain⟨k,a,hk,A,y,rfl,rfl,B,h,j,l,x,c,d⟩:=hrel;have g:Ze<|oU s (n+1) k a:=B;by_cases b:k<s.size
  .by_cases p:s[k].toNat=39
   .by_cases r:k+1<s.size
    .by_cases hd:s[k+1].toNat=39
     .have t:=P5 r g p hd;rw[Ax p]at t;have u:Ze<|oU s (n+1) (k+2)<|a++[39]:=t;have z:(((s[k+1].toNat:Nat):Int) != 39)=false:=by simp;omega
      go_wp2;go_roundw;exact⟨k+2,a++[39],by omega,by omega,by simp;omega,Hg a 39,by go_num,u,by rw[WK (hn:=c)];exact h,by rw[WK (hn:=c)];exact j,by rw[WK (hn:=c)];exact l,λo=>by rw[Yr (hn:=c)];exact x o,by simp;omega,d.alloc d.size _⟩;simp[Zk];omega
     have z:(((s[k+1].toNat:Nat):Int) != 39)=true:=by simp;omega
     have u:=Kj b g p<|.inr ⟨r,hd⟩;have t:Ze<|bj [] (aq s<|n+1)=(if 40<a.length then dF else ⟨3,0,a⟩,aq s<|k+1):=u;by_cases D:40<a.length;all_goals
      go_wp2;refine VI (v:=.tuple #[cU (bj []<|aq s<|n+1).1,.int .i64 (k+1:Nat)]) ?_ rfl ⟨k+1,rfl,by omega,by omega,by rw[t],((d.setCell qZ _).setCell qZ _).setCell qZ _⟩;rw[t]
      first|rw[VG<|by omega]|rw[VF<|by omega]
      simp[Zh,results132,go_sem,cU,gj,bG,cA,gT,dF,bt,gA,h,j,l]
    have u:=Kj b g p<|.inl r;have t:Ze<|bj [] (aq s<|n+1)=(if 40<a.length then dF else ⟨3,0,a⟩,aq s<|k+1):=u;clear u;by_cases u:40<a.length;all_goals
     go_wp2;refine VI (v:=.tuple #[cU (bj []<|aq s<|n+1).1,.int .i64 (k+1:Nat)]) ?_ rfl ⟨k+1,rfl,by omega,by omega,by rw[t],((d.setCell qZ _).setCell qZ _).setCell qZ _⟩;rw[t]
     first|rw[VG<|by omega]|rw[VF<|by omega]
     simp[Zh,results132,go_sem,cU,gj,bG,cA,gT,dF,bt,gA,h,j,l]
   have t:=Lt b g p;have r:Ze<|oU s (n+1) (k+1)<|a++[s[k]]:=t;go_wp2;go_roundw;exact⟨k+1,a++[s[k]],by omega,by omega,by simp;omega,Hg a _,by go_num,r,by rw[WK (hn:=c)];exact h,by rw[WK (hn:=c)];exact j,by rw[WK (hn:=c)];exact l,λo=>by rw[Yr (hn:=c)];exact x o,by simp;omega,d.alloc d.size _⟩;simp[Zk];omega
  have r:=NK b g;have p:Ze<|bj [] (aq s<|n+1)=(dF,aq s k):=r;go_wp2;refine VI (v:=.tuple #[cU (bj []<|aq s<|n+1).1,.int .i64 k]) ?_ rfl ⟨k,rfl,by omega,by omega,by rw[p],((d.setCell qZ _).setCell qZ _).setCell qZ _⟩;rw[p];simp[Zh,results132,go_sem,cU,gj,bG,cA,gT,dF,bt,gA,h,j,l]
def IX{s:Y9}(a:k<s.size)(h:(aq s k).dropWhile bW=X)(b:bW s[k]=true):(aq s<|k+1).dropWhile bW=X:=by rw[cJ s k a,WO b]at h;exact h
def Lu{s:Y9}(a:k<s.size)(h:(aq s k).dropWhile bW=X)(b:bW s[k]=false):X=aq s k:=by rw[<-h,cJ s k a,XH<|by simp[b]]
def Di{s:Y9}{e:Nat}(a:k<s.size)(b:Ze<|(aq s n).dropWhile bW=aq s k)(c:fL s[k]=true)(h:(s.extract k e).data.toList=(aq s k).takeWhile dV/\aq s e=(aq s k).dropWhile dV):
 aO (aq s n)=(da (s.extract k e).data.toList,aq s e):=by
 unfold aO;rw[b,h.1,h.2];rw[cJ s k a];simp only[cK,c,if_true]
def NN{s:Y9}(a:k<s.size)(b:Ze<|(aq s n).dropWhile bW=aq s k)(d:fL s[k]=false)(c:aQ s[k]=true):
 aO (aq s n)=(ed<|(aq s k).takeWhile aQ,(aq s k).dropWhile aQ):=by
 unfold aO;rw[b];rw[cJ s k a];simp only[cK,d,c,if_true,if_false,WJ]
def NM{s:Y9}(a:k<s.size)(b:Ze<|(aq s n).dropWhile bW=aq s k)(d:fL s[k]=false)(c:aQ s[k]=false)(e:s[k].toNat=39):
 aO (aq s n)=bj [] (aq s<|k+1):=by
 unfold aO;rw[b];rw[cJ s k a];simp only[cK,d,c,e,if_true,if_false,WJ]
def IZ{s:Y9}(b:k+1<s.size)(a:Ze<|(aq s n).dropWhile bW=aq s k)(d:fL s[k]=false)(c:aQ s[k]=false)(e:¬s[k].toNat=39)
 (g:eY s[k].toNat s[k+1].toNat≠99):aO (aq s n)=(⟨eY s[k].toNat s[k+1].toNat,0,[]⟩,aq s<|k+2):=by
 unfold aO;rw[a];rw[cJ s k<|by omega,cJ s (k+1) b];simp only[cK,d,c,e,if_false,WJ,dq,g]
def Bh{s:Y9}(a:k<s.size)(g:Ze<|(aq s n).dropWhile bW=aq s k)(d:fL s[k]=false)(c:aQ s[k]=false)(e:¬s[k].toNat=39)
 (i:∀h:k+1<s.size,eY s[k].toNat s[k+1].toNat=99):aO (aq s n)=(⟨ey s[k].toNat,0,[]⟩,aq s<|k+1):=by
 unfold aO;rw[g];rw[cJ s k a];by_cases b:k+1<s.size
 .rw[cJ s (k+1) b];simp only[cK,d,c,e,if_false,WJ,dq,i b,if_true]
 .rw[gK s (k+1)<|by omega];simp only[cK,d,c,e,if_false,WJ,dq]
def zP:YX:=[40,41,44,46,59,61,60,62,43,45,42,47,37]
def Qb(h:i<13):((({data:=#[40,41,44,46,59,61,60,62,43,45,42,47,37]}:Y9)[i]'h).toNat:Nat)=(zP.getD i 0).toNat:=by
 have:∀i:Fin 13,((({data:=#[40,41,44,46,59,61,60,62,43,45,42,47,37]}:Y9)[i.1]'i.2).toNat:Nat)=(zP.getD i.1 0).toNat:=by decide
 exact this ⟨i,h⟩
def N9(h:i<13){c:UInt8}(d:(zP.getD i 0).toNat=c.toNat):cU ⟨ey c.toNat,0,[]⟩=.agg #[.int .u8 115,qT [c],qI 0]:=by
 have b:zP.getD i 0=c:=Wg.1 d;have:∀i:Fin 13,cA (ey (zP.getD i.1 0).toNat)=115/\gT ⟨ey (zP.getD i.1 0).toNat,0,[]⟩=[zP.getD i.1 0]/\ey (zP.getD i.1 0).toNat≠2:=by decide
 have a:=this ⟨i,h⟩;simp only[b]at a;unfold cU bG gj;rw[a.1,a.2.1,VF a.2.2]
def LI{c:UInt8}(h:∀i,i<13->(zP.getD i 0).toNat≠c.toNat):ey c.toNat=99:=by have e:=h 0 (by omega);have g:=h 1 (by omega);have j:=h 2 (by omega);have k:=h 3 (by omega);have l:=h 4 (by omega);have n:=h 5 (by omega);have o:=h 6 (by omega);have p:=h 7 (by omega);have q:=h 8 (by omega);have r:=h 9 (by omega);have a:=h 10 (by omega);have b:=h 11 (by omega);have d:=h 12 (by omega);simp[zP]at e g j k l n o p q r a b d;unfold ey;repeat rw[VF<|by omega]
def OX{c d:UInt8}(h:(c.toNat=60/\d.toNat=62)\/(c.toNat=60/\d.toNat=61)\/(c.toNat=62/\d.toNat=61)):
 eY c.toNat d.toNat≠99/\cU ⟨eY c.toNat d.toNat,0,[]⟩=.agg #[.int .u8 115,qT [c,d],qI 0]:=by
 obtain⟨a,b⟩|⟨a,b⟩|⟨a,b⟩:=h
 .have e:c=60:=Wg.1 a;have g:d=62:=Wg.1 b;subst e g;exact⟨by decide,rfl⟩
 .have e:c=60:=Wg.1 a;have g:d=61:=Wg.1 b;subst e g;exact⟨by decide,rfl⟩
 .have e:c=62:=Wg.1 a;have g:d=61:=Wg.1 b;subst e g;exact⟨by decide,rfl⟩
def Mb{c d:UInt8}(h:¬((c.toNat=60/\d.toNat=62)\/(c.toNat=60/\d.toNat=61)\/(c.toNat=62/\d.toNat=61))):eY c.toNat d.toNat=99:=by unfold eY;rw[VF<|by omega,VF<|by omega,VF<|by omega]
def xi(s:Y9)(C:n<=s.size)(z:s.size<=1048576):
 Zc prog 77 #[.string s,.int .i64 n] w λe c=>∃q:Nat,e=.returned (.tuple #[cU (aO<|aq s n).1,.int .i64 q])/\n<=q/\q<=s.size/\aq s q=(aO<|aq s n).2/\Zd w.heap.size w c:=by
 go_in;go_wp2_with fail
 go_loop [1] (λa=>∃k:Nat,n<=k/\k<=s.size/\a=.int .i64 k/\Ze ((aq s k).dropWhile bW=(aq s n).dropWhile bW)) (λa=>s.size-(Zk a).toNat)
 case atStart=>exact⟨n,VR _,C,rfl,rfl⟩
 case round=>
  obtain⟨k,hk,r,rfl,o⟩:=hrel;by_cases b:k<s.size
  .cases b1:(((s[k].toNat:Nat):Int)==32)<;>cases b2:(((s[k].toNat:Nat):Int)==9)<;>cases b3:(((s[k].toNat:Nat):Int)==10)
   case false.false.false=>
    have d:bW s[k]=false:=by unfold bW;simp at b1 b2 b3 ⊢;omega
    have l:Ze<|(aq s n).dropWhile bW=aq s k:=Lu b o.o d;clear d o;cases hl:fL s[k]
    case true=>
     have t:Ze<|fL s[k]=true:=hl;go_wp2_with (first|(go_at_call 128;apply km.mono;rintro e c⟨rfl,rfl⟩)|(go_at_call 129;apply jQ.mono;rintro e c⟨rfl,rfl⟩));clear b1 b2 b3 hl
     go_loop [9] (λa=>∃e:Nat,k<=e/\e<=s.size/\a=.int .i64 e/\Ze (qU dV s k e)) (λa=>s.size-(Zk a).toNat)
     case atStart=>exact⟨k,VR _,r,rfl,BS⟩
     obtain⟨e,p,B,rfl,h⟩:=hrel;by_cases g:e<s.size
     focus
      cases ho:dV s[e]
      focus
       have i:Ze<|aO (aq s n)=(da (s.extract k e).data.toList,aq s e):=Di b l t.o<|BR h.o<|.inr ⟨g,ho⟩;have x:fL s[e]=false:=by simp[dV]at ho;exact ho.1
       have y:aQ s[e]=false:=by simp[dV]at ho;exact ho.2
       clear ho;go_wp2_with (first|(go_at_call 128;apply km.mono;rintro e c⟨rfl,rfl⟩)|(go_at_call 129;apply jQ.mono;rintro e c⟨rfl,rfl⟩))
      rotate_left
      ·cases x:fL s[e];all_goals
        cases y:aQ s[e]
       all_goals
        try (exfalso;simp[dV,x,y]at ho;done)
       all_goals
        have u:Ze<|qU dV s k<|e+1:=Dy p g h.o ho;clear h ho;go_wp2_with (first|(go_at_call 128;apply km.mono;rintro e c⟨rfl,rfl⟩)|(go_at_call 129;apply jQ.mono;rintro e c⟨rfl,rfl⟩));go_round
        case rel=>exact⟨e+1,by omega,by omega,by go_num,u⟩
        case measure=>simp[Zk];omega
     rotate_left
     focus
      have i:Ze<|aO (aq s n)=(da (s.extract k e).data.toList,aq s e):=Di b l t.o<|BR h.o<|.inl g;go_wp2_with fail
     all_goals
      apply O7.mono;rintro E A⟨rfl,d⟩;obtain⟨c1,F⟩:=dN d;have D:w.heap.size<A.heap.size:=by have:=d.size;simp at this;omega
      have j:Zd w.heap.size w A:=((VM _ _).alloc (VR _) _).trans<|d.mono (by simp);rw[fr];go_wp2_with refine VI (v:=.tuple #[cU<|da (s.extract k e).data.toList,.int .i64 e]) ?_ rfl ⟨e,by rw[i.o],by omega,by omega,by rw[i.o],?_⟩
      .simp[Zh,results77,go_sem,c1,D,fr]
      .exact(eJ j _ _ _).alloc (by simp;omega) _
    cases hd:aQ s[k]
    case true=>
     have h:Ze<|aO (aq s n)=(ed<|(aq s k).takeWhile aQ,(aq s k).dropWhile aQ):=NN b l hl hd;go_wp2_with (first|(go_at_call 128;apply km.mono;rintro e c⟨rfl,rfl⟩)|(go_at_call 129;apply jQ.mono;rintro e c⟨rfl,rfl⟩));apply(Gr s r z).mono;rintro y i⟨q,rfl,p,t,g,d⟩;have j:Ze<|aq s q=(aq s k).dropWhile aQ:=g;clear g;obtain⟨c1,A⟩:=dN d;have x:w.heap.size<i.heap.size:=by have:=d.size;simp at this;omega
     have g:Zd w.heap.size w i:=((VM _ _).alloc (VR _) _).trans<|d.mono (by simp);rw[fr];go_wp2_with refine VI (v:=.tuple #[cU<|ed<|(aq s k).takeWhile aQ,.int .i64 q]) ?_ rfl ⟨q,by rw[h.o],by omega,by omega,by rw[h.o,j.o],?_⟩
     .simp[Zh,results77,go_sem,c1,x,fr]
     exact eJ g _ _ _
    by_cases d:s[k].toNat=39
    .have x:(((s[k].toNat:Nat):Int)==39)=true:=by simp;omega
     have i:Ze<|aO (aq s n)=bj [] (aq s<|k+1):=NM b l hl hd d;clear d;go_wp2_with (first|(go_at_call 128;apply km.mono;rintro e c⟨rfl,rfl⟩)|(go_at_call 129;apply jQ.mono;rintro e c⟨rfl,rfl⟩));apply(Gj s b z).mono;rintro B j⟨q,rfl,t,y,d,g⟩;have p:Ze<|aq s q=(bj []<|aq s<|k+1).2:=d;clear d;obtain⟨c1,D⟩:=dN g;have A:w.heap.size<j.heap.size:=by have:=g.size;simp at this;omega
     have h:Zd w.heap.size w j:=((VM _ _).alloc (VR _) _).trans<|g.mono (by simp);rw[fr];go_wp2_with refine VI (v:=.tuple #[cU (bj []<|aq s<|k+1).1,.int .i64 q]) ?_ rfl ⟨q,by rw[i.o],by omega,by omega,by rw[i.o,p.o],?_⟩
     .simp[Zh,results77,go_sem,c1,A,fr]
     exact eJ h _ _ _
    have i:(((s[k].toNat:Nat):Int)==39)=false:=by simp;omega
    by_cases x:k+1<s.size
    rotate_left
    focus
     have g:Ze<|aO (aq s n)=(⟨ey s[k].toNat,0,[]⟩,aq s<|k+1):=Bh b l hl hd d λh=>absurd h x;go_wp2_with (first|(go_at_call 128;apply km.mono;rintro e c⟨rfl,rfl⟩)|(go_at_call 129;apply jQ.mono;rintro e c⟨rfl,rfl⟩));clear b1 b2 b3 d i hl hd
    rotate_left
    focus
     by_cases j:(s[k].toNat=60/\s[k+1].toNat=62)\/(s[k].toNat=60/\s[k+1].toNat=61)\/(s[k].toNat=62/\s[k+1].toNat=61)
     ·have p:=OX j;have g:Ze<|aO (aq s n)=(⟨eY s[k].toNat s[k+1].toNat,0,[]⟩,aq s<|k+2):=IZ x l hl hd d p.1;have t:Ze<|cU ⟨eY s[k].toNat s[k+1].toNat,0,[]⟩=.agg #[.int .u8 115,.string ⟨[s[k],s[k+1]].toArray⟩,.int .i64 0]:=p.2;clear p;go_wp2_with (first|(go_at_call 128;apply km.mono;rintro e c⟨rfl,rfl⟩)|(go_at_call 129;apply jQ.mono;rintro e c⟨rfl,rfl⟩));all_goals
       refine VI (v:=.tuple #[cU ⟨eY s[k].toNat s[k+1].toNat,0,[]⟩,.int .i64 (k+2:Nat)]) ?_ rfl ⟨k+2,by rw[g.o],by omega,by omega,by rw[g.o],(VM _ _).alloc (VR _) _⟩;rw[t.o,<-PQ s k x];simp[Zh,results77,go_sem]
     have g:Ze<|aO (aq s n)=(⟨ey s[k].toNat,0,[]⟩,aq s<|k+1):=Bh b l hl hd d λ_=>Mb j;go_wp2_with (first|(go_at_call 128;apply km.mono;rintro e c⟨rfl,rfl⟩)|(go_at_call 129;apply jQ.mono;rintro e c⟨rfl,rfl⟩))
     all_goals try (exfalso;have y:(((s[k+1].toNat:Nat):Int)==62)=true\/(((s[k+1].toNat:Nat):Int)==61)=true:=by assumption
                    simp at y;omega)
     all_goals clear b1 b2 b3 d i hl hd j
    all_goals
     go_loop [14] (λa=>∃i:Nat,i<=13/\a=.int .i64 i/\Ze (∀j,j<i->(zP.getD j 0).toNat≠s[k].toNat)) (λa=>13-(Zk a).toNat)
     case atStart=>exact⟨0,Wi _,rfl,λj d=>by omega⟩
     case round=>
      obtain⟨i,hi,rfl,p⟩:=hrel;by_cases d:i<13
      .have t:=Qb d;cases hx:((((({data:=#[40,41,44,46,59,61,60,62,43,45,42,47,37]}:Y9)[i]'d).toNat:Nat):Int)==(s[k].toNat:Int))
       ·have A:Ze (∀j,j<i+1->(zP.getD j 0).toNat≠s[k].toNat):=λj B=>by
         by_cases e:j=i
         .subst e;rw[<-t];simp at hx;omega
         exact p.o j<|by omega
        clear t p;go_wp2;go_round
        case rel=>exact⟨i+1,by omega,by go_num,A⟩
        simp[Zk];omega
       have A:Ze<|cU ⟨ey s[k].toNat,0,[]⟩=.agg #[.int .u8 115,.string ⟨[s[k]].toArray⟩,.int .i64 0]:=N9 d (by rw[<-t];simp at hx;omega);clear t p;go_wp2_with refine VI (v:=.tuple #[cU ⟨ey s[k].toNat,0,[]⟩,.int .i64 (k+1:Nat)]) ?_ rfl ⟨k+1,by rw[g.o],by omega,by omega,by rw[g.o],(VM _ _).alloc (VR _) _⟩;rw[A.o,<-D1 s k b];simp[Zh,results77,go_sem]
      have t:Ze<|cU ⟨ey s[k].toNat,0,[]⟩=.agg #[.int .u8 120,.string ⟨#[]⟩,.int .i64 0]:=by show cU ⟨ey s[k].toNat,0,[]⟩=_;rw[LI λj A=>p.o j<|by omega];rfl
      clear p;go_wp2_with refine VI (v:=.tuple #[cU ⟨ey s[k].toNat,0,[]⟩,.int .i64 (k+1:Nat)]) ?_ rfl ⟨k+1,by rw[g.o],by omega,by omega,by rw[g.o],(VM _ _).alloc (VR _) _⟩;rw[t.o];simp[Zh,results77,go_sem]
   all_goals
    have u:Ze<|(aq s<|k+1).dropWhile bW=(aq s n).dropWhile bW:=IX b o.o (by unfold bW;simp at b1 b2 b3 ⊢;omega);clear o;try (exfalso;simp at b1 b2 b3;omega)
   all_goals
    go_wp2;go_round
    case rel=>exact⟨k+1,by omega,by omega,by go_num,u⟩
    case measure=>simp[Zk];omega
  go_wp2_with refine VI (v:=.tuple #[.agg #[.int .u8 101,.string ⟨#[]⟩,.int .i64 0],.int .i64 k]) ?_ rfl ⟨k,?_,by omega,by omega,?_,(VM _ _).alloc (VR _) _⟩
  .simp[Zh,results77,go_sem]
  .unfold aO;rw[<-o.o,gK s k<|by omega];rfl
  unfold aO;rw[<-o.o,gK s k<|by omega];rfl
def RS(w:Za)(rb:Nat)(s:Y9)(p d:Nat)(b:Bool):Prop:=
 w.heap[rb]?=some (.cells #[.string s,qI p,qI d,.bool b] 148)
def RS.c{s:Y9}(h:RS w n s k i b):
 w.cell? ⟨n,0,none⟩=some (.string s)/\w.cell? ⟨n,1,none⟩=some (qI k)/\w.cell? ⟨n,2,none⟩=some (qI i)/\w.cell? ⟨n,3,none⟩=some (.bool b)/\(∀o,w.frozen? ⟨n,o,none⟩=false):=
 ⟨bC h 0,bC h 1,bC h 2,bC h 3,bF h⟩
def vg(t:ae)(str:Y9)(b:Bool):Bool:=!b&&((bG t).toList==str.toList)&&(cA t.k==107||cA t.k==115)
def ug(l:YX)(str:Y9)(b:Bool):YX:=if vg (aO l).1 str b=true then (aO l).2 else l
def tE(w wx:Za)(tb:Nat)(t:ae):Prop:=
 w.heap.size<=tb/\wx.heap[tb]?=some (.cells #[.int .u8<|cA t.k,.string<|bG t,qI<|gj t] 151)/\qB w wx
def yl{t:ae}(b:Zd w.drew.heap.size w.drew W):
 tE w (W.alloc<|.cells #[.int .u8<|cA t.k,.string<|bG t,qI<|gj t] 151) W.heap.size t:=by
 have a:qB w W:=qW.drew.trans b;exact⟨a.size,aM _ _,a.alloc a.size _⟩
def vA(t:ae)(b:Zd ((w.alloc<|.cells #[u,A,z] 151).drew).heap.size ((w.alloc<|.cells #[u,A,z] 151).drew) W):
 tE w (((W.setCell ⟨w.heap.size,0,none⟩<|.int .u8<|cA t.k).setCell ⟨w.heap.size,1,none⟩<|.string<|bG t).setCell ⟨w.heap.size,2,none⟩<|qI<|gj t) w.heap.size t:=by
 have c:W.heap[w.heap.size]?=some (.cells #[u,A,z] 151):=bB b (by simp[Za.drew])<|aM w _;have a:qB w W:=(qA.drew).trans<|b.mono (by simp[Za.drew]);refine⟨qZ,?_,eJ a _ _ _⟩;have:=bS (bS (bS c 0<|.int .u8<|cA t.k) 1<|.string<|bG t) 2<|qI<|gj t;simpa using this
def Nm{s:Y9}(b:Bool){a:Y9}(r:RS w n s k i b)(D:k<=s.size)(O:s.size<=1048576):
 Zc prog 76 #[qP n,.string a] w λe F=>∃q:Nat,e=.returned (.bool<|vg (aO<|aq s k).1 a b)/\RS F n s q i b/\k<=q/\q<=s.size /\
  aq s q=ug (aq s k) a b/\aH n w F:=by
 obtain⟨Y,Z,g2,g3,gf⟩:=r.c;have z:n<w.heap.size:=lB r;have I:Ze<|RS w n s k i b:=r;go_in;go_upto_region 1 with fail
 go_cut [5,6] (λR S V=>∃p q:Nat,R=qP p/\S=qI q/\k<=q/\q<=s.size/\Ze (aq s q=(aO<|aq s k).2)/\tE w V p (aO<|aq s k).1)
 case first=>
  go_region_with (go_at_call 77;apply(xi s D O).mono;rintro e l⟨q,rfl,d,g,j,c⟩;have h:Ze<|aq s q=(aO<|aq s k).2:=j;clear j;obtain⟨c1,j⟩:=dN c;have o:=c.size;rw[fr])
  all_goals
   go_wp2;go_meet
   first|exact⟨_,q,rfl,rfl,d,g,h,yl c⟩|exact⟨_,q,rfl,rfl,d,g,h,vA _ c⟩
 case rest=>
  obtain⟨p,q,rfl,rfl,u,y,H,P,j,g⟩:=hcut;have o:RS wc n s k i b:=bB g z I;obtain⟨r0,r1,r2,r3,rf⟩:=o.c;have l:Ze<|RS wc n s k i b:=o;have T:=bC j 0;have U:=bC j 1;have N:¬p=n:=by omega
  have E:aH n w wc:=(aH.refl _ _).below g;generalize J:(aO<|aq s k).1=t at*;have d:Ze<|(aO<|aq s k).1=t:=J;have c:Ze<|vg t a b=(!b&&((bG t).toList==a.toList)&&(cA t.k==107||cA t.k==115)):=rfl;generalize cA t.k=K at*;generalize bG t=B at*;simp at T U;have A:vg t a b=true->aq s q=ug (aq s k) a b:=λh=>by rw[ug,d,h,VG rfl,H]
  have no:vg t a b=false->aq s k=ug (aq s k) a b:=λh=>by rw[ug,d,h];rfl
  have M:Ze<|vg t a b=true->aq s q=ug (aq s k) a b:=A;have G:Ze<|vg t a b=false->aq s k=ug (aq s k) a b:=no;have last (x:Bool) (Q:x=false):Ze (vg t a b=x)->Ze (Zg.returned (.bool false)=.returned (.bool<|vg (aO<|aq s k).1 a b)/\RS wc n s k i b/\k<=k/\k<=s.size/\aq s k=ug (aq s k) a b/\aH n w wc):=λh=>by subst Q;exact⟨by rw[d,h],l,qZ,D,G h,E⟩
  cases b
  .cases e1:(B.toList==a.toList)
   .have L:=last _ rfl (by rw[c,e1];rfl);go_wp2;go_ret;exact⟨k,L⟩
   cases e2:(K==107)<;>cases e3:(K==115)
   .have L:=last _ rfl (by rw[c,e1,e2,e3];rfl);have W:(K != 107)=true:=by simp at e2 ⊢;exact e2
    have X:(K != 115)=true:=by simp at e3 ⊢;exact e3
    go_wp2;go_ret;exact⟨k,L⟩
   all_goals
    have C:Ze<|vg t a false=true:=by show vg t a false=true;rw[c,e1,e2,e3];rfl
    have L:Ze<|Zg.returned (.bool true)=.returned (.bool<|vg (aO<|aq s k).1 a false)/\RS (wc.setCell ⟨n,1,none⟩<|qI q) n s q i false/\k<=q/\q<=s.size/\aq s q=ug (aq s k) a false/\aH n w (wc.setCell ⟨n,1,none⟩<|qI q):=
     ⟨by rw[d,C],bS l 1 _,u,y,M C,E.set _ _⟩
   .have W:(K != 107)=true:=by simp at e2 ⊢;exact e2
    have X:(K != 115)=false:=by simp at e3 ⊢;exact e3
    go_wp2;go_ret;exact⟨q,L⟩
   .have W:(K != 107)=false:=by simp at e2 ⊢;exact e2
    go_wp2;go_ret;exact⟨q,L⟩
   .exfalso;simp at e2 e3;omega
  have L:=last _ rfl (by rw[c];rfl);go_wp2;go_ret;exact⟨k,L⟩
def RT(w:Za)(rb:Nat)(s:Y9)(ts:YV)(d:Nat)(b:Bool):Prop:=
 ∃p:Nat,p<=s.size/\s.size<=1048576/\RS w rb s p d b/\de (aq s p)=ts
def RT.lt{s:Y9}(h:RT w n s D k b):n<w.heap.size:=by obtain⟨p,_,_,h,_⟩:=h;exact lB h
def RT.q{s:Y9}(h:RT w n s D k b)(g:W.heap[n]?=w.heap[n]?):RT W n s D k b:=by obtain⟨p,a,c,d,e⟩:=h;exact⟨p,a,c,by unfold RS at*;rw[g,d],e⟩
def dh(ts:YV)(k:Nat)(b:Bool):Bool:=!b&&(af ts).k==k
def ff(ts:YV)(k:Nat)(b:Bool):YV:=if dh ts k b=true then ts.tail else ts
def Kw(k:Nat):(cA k==107||cA k==115)=true↔4<=k/\k<51:=by
 unfold cA;by_cases a:k=0
 .subst a;decide
 by_cases b:k=1
 .subst b;decide
 by_cases c:k=2
 .subst c;decide
 by_cases d:k=3
 .subst d;decide
 rw[VF a,VF b,VF c,VF d];by_cases e:k<20
 .rw[VG e];simp<;>omega
 rw[VF e];by_cases g:k<51
 .rw[VG g];simp<;>omega
 rw[VF g];simp<;>omega
def CY(l:YX):(⟨l.toArray⟩:Y9).toList=l:=by rw[ByteArray.toList_eq]
def Nl{t:ae}(g:4<=k)(a:k<51)(b:Bool):vg t ⟨(bt k).toArray⟩ b=(!b&&t.k==k):=by
 unfold vg;cases b with
 |true=>rfl
 |false=>
  simp only[Bool.not_false,X5];by_cases h:4<=t.k/\t.k<51
  ·rw [(Kw t.k).2 h];have hs:bG t=⟨(bt t.k).toArray⟩:=by
    rw[bG,gT,VF<|by omega]
   rw[hs,CY,CY,Bool.and_true];by_cases e:t.k=k
   .rw[e];simp
   have:bt t.k≠bt k:=λc=>e<|EE h.1 h.2 g a c;rw[XQ.2 this,XQ.2 e]
  have c:(cA t.k==107||cA t.k==115)=false:=by rw[Xm];intro d;exact h<|(Kw t.k).1 d
  rw[c,Bool.and_false];have:t.k≠k:=by omega
  simp[this]
def jd(k:Nat)(u:4<=k)(g:k<51){s:Y9}(b:Bool)(d:Y9)(c:d=⟨(bt k).toArray⟩)(t:RT w n s D i b):
 Zc prog 76 #[qP n,.string d] w λe o=>e=.returned (.bool<|dh D k b)/\RT o n s (ff D k b) i b/\aH n w o:=by
 obtain⟨p,x,hs,z,rfl⟩:=t;subst c;apply(Nm b z x hs).mono;rintro e o⟨q,rfl,l,y,j,a,h⟩;have r:vg (aO<|aq s p).1 ⟨(bt k).toArray⟩ b=dh (de<|aq s p) k b:=by rw[Nl u g];rw[dh,ll]
 refine⟨by rw[r],⟨q,j,hs,l,?_⟩,h⟩;unfold ug at a;unfold ff;rw[r]at a;cases hx:dh (de<|aq s p) k b
 .rw[hx]at a;rw[a];rfl
 .rw[hx]at a;simp only[if_true]at a ⊢;rw[a];unfold dh at hx;rw[ll]at hx;simp at hx;rw[qX (by omega)<|by omega]
def mU(k:Nat)(r:4<=k)(g:k<51){s:Y9}(b:Bool)(a:Y9)(c:Ze<|a=⟨(bt k).toArray⟩)(o:RT w n s D i b):
 Zc prog 121 #[qP n,.string a] w λe l=>e=.returned (.tuple #[])/\RT l n s (ff D k b) i (!dh D k b)/\aH n w l:=by
 have j:=Z<|jd k r g b a c o;have q:dh D k b=true->b=false:=by cases b<;>simp[dh]
 cases hx:dh D k b
 .go_in;go_wp2_with fail;apply qR j;rintro B⟨⟨p,t,hs,h,u⟩,d⟩;obtain⟨x,y,z,A,rf⟩:=h.c;rw[hx];go_wp2
  go_end0
  exact⟨rfl,⟨p,t,hs,bS h 3 _,u⟩,d.set _ _⟩
 .have d:=q hx;subst d;go_in;go_wp2_with fail;apply qR j;rintro t⟨p,h⟩;rw[hx];go_wp2
  go_end0
  exact⟨rfl,p,h⟩
def yk(h:aH n w W):aH n w<|((W.setCell ⟨w.heap.size,0,none⟩ u).setCell ⟨w.heap.size,1,none⟩ z).setCell ⟨w.heap.size,2,none⟩ A:=
 ((h.l qZ _).l qZ _).l qZ _
def Jo{s:Y9}(a:n≠w.heap.size)(h:RS W n s k i b):
 RS (((W.setCell ⟨w.heap.size,0,none⟩ u).setCell ⟨w.heap.size,1,none⟩ A).setCell ⟨w.heap.size,2,none⟩ z) n s k i b:=
 bY (bY (bY h a _ _) a _ _) a _ _
def Pd(t:ae)(c:Int)(b:Bool):Bool:=b||cA t.k != c
def LG(l:YX)(c:Int)(b:Bool):YX:=if Pd (aO l).1 c b=true then l else (aO l).2
def Gf{t:ae}(b:n=w.heap.size)(a:Zd ((w.alloc<|.cells #[u,A,z] 151).drew).heap.size ((w.alloc<|.cells #[u,A,z] 151).drew) W):
 tE w (((W.setCell ⟨n,0,none⟩<|.int .u8<|cA t.k).setCell ⟨n,1,none⟩<|.string<|bG t).setCell ⟨n,2,none⟩<|qI<|gj t) n t:=by
 subst b;exact vA t a
def Sy{s:Y9}(b:Bool)(c:Int)(y:RS w n s k i b)(A:k<=s.size)(T:s.size<=1048576):
 Zc prog 183 #[qP n,.int .u8 c] w λe L=>∃q:Nat,e=.returned (cU (aO<|aq s k).1)/\RS L n s q i (Pd (aO<|aq s k).1 c b)/\q<=s.size /\
  aq s q=LG (aq s k) c b/\aH n w L:=by
 have S:n<w.heap.size:=lB y;have z:RS (w.alloc<|.cells #[.int .u8 0,.string {data:=#[]},qI 0] 151) n s k i b:=bA y _;obtain⟨g0,g1,g2,g3,gf⟩:=y.c;have P:Ze<|RS (w.alloc<|.cells #[.int .u8 0,.string {data:=#[]},qI 0] 151) n s k i b:=z;go_in;go_upto_region 1 with fail
 go_cut [5,6] (λU V wx=>∃o q:Nat,U=qP o/\V=qI q/\k<=q/\q<=s.size/\Ze (aq s q=(aO<|aq s k).2)/\tE (w.alloc<|.cells #[.int .u8 0,.string {data:=#[]},qI 0] 151) wx o (aO<|aq s k).1)
 case first=>
  go_region_with (go_at_call 77;apply(xi s A T).mono;rintro e l⟨q,rfl,d,g,j,a⟩;have h:Ze<|aq s q=(aO<|aq s k).2:=j;clear j;obtain⟨c1,j⟩:=dN a;have p:=a.size;rw[fr])
  all_goals
   go_wp2;go_meet
   first|exact⟨_,q,rfl,rfl,d,g,h,yl a⟩|exact⟨_,q,rfl,rfl,d,g,h,Gf (by simp) a⟩
 case rest=>
  obtain⟨o,q,rfl,rfl,R,C,O,D,g,d⟩:=hcut;have z0:w.heap.size<o:=by simp at D;omega
  have p:RS wc n s k i b:=bB d (by simp;omega) P;have j:wc.heap[w.heap.size]?=some (.cells #[.int .u8 0,.string {data:=#[]},qI 0] 151):=bB d (by simp)<|aM w _;obtain⟨r0,r1,r2,r3,rf⟩:=p.c;have l:Ze<|RS wc n s k i b:=p;have W:=bC g 0;have X:=bC g 1;have Y:=bC g 2;have r:=bC j 0;have t:=bC j 1;have u:=bC j 2;have xf:=bF j;have⟨Q,J,a⟩:¬o=n/\¬o=w.heap.size/\¬n=w.heap.size:=by omega
  have E:aH n w wc:=((aH.refl n w).alloc _).below d;have x:Ze<|cU (aO<|aq s k).1=.agg #[.int .u8<|cA (aO<|aq s k).1.k,.string<|bG (aO<|aq s k).1,qI<|gj (aO<|aq s k).1]:=rfl;have HB:Ze<|Pd (aO<|aq s k).1 c b=(b||cA (aO<|aq s k).1.k != c):=rfl;have F:Pd (aO<|aq s k).1 c b=true->aq s k=LG (aq s k) c b:=λh=>by rw[LG,h,VG rfl]
  have no:Pd (aO<|aq s k).1 c b=false->aq s q=LG (aq s k) c b:=λh=>by rw[LG,h,O];rfl
  have H:=Z F;have M:=Z no;generalize cA (aO<|aq s k).1.k=K at*;generalize bG (aO<|aq s k).1=B at*;generalize gj (aO<|aq s k).1=N at*;simp at W X Y r t u;cases e1:(K != c)
  .cases b
   .have I:=HB.o;rw[e1]at I;have G:Ze<|Pd (aO<|aq s k).1 c false=false:=I;go_wp2_with fail;refine VI (v:=.agg #[.int .u8 K,.string B,qI N]) ?_ rfl ⟨q,by rw[x],by rw[G];exact Jo (Ne.intro a)<|bS l 1 _,C,M G,yk<|E.set _ _⟩;simp[Zh,results183,go_sem,r,t,u,a]
   have G:Ze<|Pd (aO<|aq s k).1 c true=true:=by rw[HB];rfl
   go_wp2_with fail;refine VI (v:=.agg #[.int .u8 K,.string B,qI N]) ?_ rfl ⟨k,by rw[x],by rw[G];exact Jo (Ne.intro a) l,A,H G,yk E⟩;simp[Zh,results183,go_sem,r,t,u]
  have I:=HB.o;rw[e1,Bool.or_true]at I;have G:Ze<|Pd (aO<|aq s k).1 c b=true:=I;go_wp2_with fail;refine VI (v:=.agg #[.int .u8 K,.string B,qI N]) ?_ rfl ⟨k,by rw[x],by rw[G];exact Jo (Ne.intro a)<|bS l 3 _,A,H G,yk<|E.set _ _⟩;simp[Zh,results183,go_sem,r,t,u,a]
def SI(k:Nat):(cA k != 119)=!(k==1):=by
 unfold cA;repeat' split
 all_goals (simp;try omega)
def Ot(k:Nat):(cA k != 110)=!(k==2):=by
 unfold cA;repeat' split
 all_goals (simp;try omega)
def P_{t:ae}(h:af D=t)(a:Nat)(c:Int)(d:(a=1/\c=119)\/(a=2/\c=110))(b:Bool):Pd t c b=!dh D a b:=by
 unfold Pd dh;rw[h];obtain⟨rfl,rfl⟩|⟨rfl,rfl⟩:=d
 .rw[SI];cases b<;>simp
 rw[Ot];cases b<;>simp
def Vg(d:Nat)(c:Int)(r:(d=1/\c=119)\/(d=2/\c=110)){s:Y9}(b:Bool)(o:RT w n s D k b):
 Zc prog 183 #[qP n,.int .u8 c] w λe j=>e=.returned (cU<|af D)/\RT j n s (ff D d b) k (!dh D d b)/\aH n w j:=by
 obtain⟨p,t,hs,u,rfl⟩:=o;apply(Sy b c u t hs).mono;rintro e j⟨q,rfl,g,i,a,h⟩;have l:=P_ (ll<|aq s p) d c r b;rw[l]at g;refine⟨by rw[ll],⟨q,i,hs,g,?_⟩,h⟩;unfold LG at a;unfold ff;rw[l]at a;cases hx:dh (de<|aq s p) d b
 .rw[hx]at a;rw[a];rfl
 .rw[hx]at a;simp only[if_true]at a ⊢;rw[a];unfold dh at hx;rw[ll]at hx;simp at hx;rw[<-qX (by omega) (by omega)];rfl
def uB{s:Y9}(b:Bool)(g:RT w n s D k b):
 Zc prog 122 #[qP n] w λe d=>e=.returned (.string<|bG<|af D)/\RT d n s (ff D 1 b) k (!dh D 1 b)/\aH n w d:=by
 go_in;go_wp2_with fail;apply qR<|Z<|Vg 1 119 (.inl ⟨rfl,rfl⟩) b g;rintro h⟨c,a⟩;rw[fr];go_wp2;go_ret;exact⟨rfl,c.q<|by rw[V2 _ _ _ c.lt],a.alloc _⟩
def xj{s:Y9}(b:Bool)(i:RT w n s D k b):
 Zc prog 184 #[qP n] w λe h=>e=.returned (.bool<|dh D 9 b)/\RT h n s (ff D 9 b) k b/\aH n w h:=by
 have g:=Z<|jd 9 (by decide) (by decide) b {data:=#[44]} rfl i;have j:dh D 9 b=true->b=false:=by cases b<;>simp[dh]
 cases hx:dh D 9 b
 .go_in;go_wp2_with fail;apply qR g;rintro d⟨c,a⟩;rw[hx];go_wp2;go_ret;exact⟨rfl,c,a⟩
 .have c:=j hx;subst c;go_in;go_wp2_with fail;apply qR g;rintro y⟨o,d⟩;rw[hx];obtain⟨p,l,hs,a,q⟩:=o;obtain⟨r,t,u,x,rf⟩:=a.c;go_wp2;go_ret;exact⟨rfl,⟨p,l,hs,a,q⟩,d⟩
def EW(d:Nat)(b:Bool):Bool:=b||decide (20<=d)
def DZ{s:Y9}(q:k<=1000)(b:Bool)(l:RT w n s D k b):
 Zc prog 307 #[qP n] w λe j=>e=.returned (.bool<|!EW k b)/\RT j n s D (k+1) (EW k b)/\aH n w j:=by
 obtain⟨p,h,hs,i,o⟩:=l;have g:Ze<|de (aq s p)=D:=o;obtain⟨r,t,u,x,rf⟩:=i.c;have d:Ze<|RS w n s p k b:=i;by_cases a:20<=k
 .have c:Ze<|EW k b=true:=by simp[EW,a,Ze]
  go_in;go_wp2;go_ret;exact⟨by rw[c];rfl,⟨p,h,hs,by rw[c];exact bS (bS d 2 _) 3 _,g⟩,((aH.refl _ _).set _ _).set _ _⟩
 .have c:Ze<|EW k b=b:=by simp[EW,a,Ze]
  go_in;go_wp2;go_ret;exact⟨by rw[c];rfl,⟨p,h,hs,by rw[c];exact bS d 2 _,g⟩,(aH.refl _ _).set _ _⟩
def gL(ts:YV)(b:Bool):Y4->Int->Int
 |[],_=>-1
 |k::ks,i=>if dh ts k b=true then i else gL ts b ks (i+1)
def eQ(ts:YV)(b:Bool):Y4->YV
 |[]=>ts
 |k::ks=>if dh ts k b=true then ts.tail else eQ ts b ks
def jX(w:Za)(lb:Nat)(ks:Y4):Prop:=lb<w.heap.size/\(∀i (h:i<ks.length),w.cell? ⟨lb,i,none⟩=some (qT<|bt ks[i]))/\∀k,k∈ks->4<=k/\k<51
def A3:∀(ks:Y4)(i:Nat)(j:Int),i<=ks.length->(∀m (h:m<ks.length),m<i->dh D ks[m] b=false)->gL D b ks j=gL D b (ks.drop i) (j+i)/\eQ D b ks=eQ D b (ks.drop i)
 |ks,0,j,_,_=>by simp
 |[],i+1,j,h,_=>by simp at h
 |k::ks,i+1,j,h,hno=>by
  have a:=hno 0 (by simp) (by omega);simp only[List.getElem_cons_zero]at a;have:=A3 ks i (j+1) (by simpa using h) (λm d c=>by have:=hno (m+1) (by simp;omega) (by omega);simpa using this);rw[X_];constructor
  .rw[gL,a,VF<|by simp,this.1];congr 1;omega
  rw[eQ,a,VF<|by simp,this.2]
def RY{c:Y4}(F:Nat){s:Y9}(b:Bool)(I:RT w k s D j b)(H:jX w n c)(x:n≠k)(M:c.length<=100):
 Zc prog 120 #[.pointer<|some ⟨k,0,none⟩,.slice (some ⟨n,0,none⟩) c.length F] w λe C=>e=.returned (.int .i64<|gL D b c 0)/\RT C k s (eQ D b c) j b/\aH k w C:=by
 have E:=Z I;have p:=Z H;go_in;go_wp2
 go_loopw [5] (λa wr=>∃i:Nat,i<=c.length/\a=.int .i64 i/\Ze (∀m (h:m<c.length),m<i->dh D c[m] b=false)/\Ze (RT wr k s D j b)/\Ze (aH k w wr)) (λa _=>c.length-(Zk a).toNat)
 exact⟨0,Wi _,rfl,λm _ h=>by omega,E,aH.refl _ _⟩
 case round=>
  obtain⟨i,hi,rfl,q,A,g⟩:=hrel;by_cases d:i<c.length
  .have L:wr.cell? ⟨n,i,none⟩=some (.string ⟨(bt c[i]).toArray⟩):=by rw[g.cell p.1 x];exact p.2.1 i d
   have hk:=p.2.2 c[i]<|VQ d;have z:=Z<|jd c[i] hk.1 hk.2 b _ rfl A;have l:=Z<|A3 c i 0 hi q;rw[VJ d]at l;generalize u:c[i]=y at*;have o:=Z u;cases hx:dh D y b
   .have G:Ze<|ff D y b=D:=by unfold ff;rw[hx];rfl
    go_wp2_with fail;refine z.mono ?_;rintro e N⟨rfl,B,t⟩;rw[hx];rw[G]at B;have r:=Z B;go_wp2;go_roundw
    case rel=>exact ⟨i+1,by omega,by go_num,λm J K=>by
     by_cases e:m=i
     .subst e;rw[o];exact hx
     .exact q m J<|by omega,r,g.trans t⟩
    simp[Zk];omega
   go_wp2_with fail;refine z.mono ?_;rintro e J⟨rfl,G,t⟩;rw[hx];have r:=Z G;have B:Ze<|gL D b c 0=(i:Int)/\eQ D b c=ff D y b:=by
    constructor
    .rw[l.1,gL,hx,VG rfl];omega
    rw[l.2,eQ,hx,VG rfl];unfold ff;rw[hx,VG rfl]
   go_wp2;go_ret;exact⟨fQ B.1.symm,by rw[B.2];exact r,g.trans t⟩
  have l:=A3 c i 0 hi q;rw[Wo<|by omega]at l;have o:Ze<|gL D b c 0=-1/\eQ D b c=D:=⟨by rw[l.1,gL],by rw[l.2,eQ]⟩;go_wp2;go_ret;exact⟨fQ o.1.symm,by rw[o.2];exact A,g⟩
def mg:List YX:=[[76],[67],[126],[33],[63],[105],[43],[45],[42],[58],[37],[61],[60,62],[60],[60,61],[62],[62,61],[38],[124]]
def iX(op:Nat):Y9:=⟨(mg.getD op []).toArray⟩
def bz(w:Za)(rb:Nat):aA->Zb->Prop
 |.nil,v=>v=.pointer none
 |.node _ _ a l r,v=>∃(n:Nat) (vl vr:Zb),v=qP n/\rb<n /\
  w.heap[n]?=some (.cells #[.string<|iX a.op,vl,vr,qI a.aC,qI a.n,qT a.s,qT a.src,qT a.name] 301)/\bz w rb l vl/\bz w rb r vr
def bz.d(b:aH k w W):∀{t:aA}{v:Zb},bz w k t v->bz W k t v
 |.nil,_,h=>h
 |.node _ _ a l r,v,⟨n,vl,vr,hv,hn,hb,hl,hr⟩=>⟨n,vl,vr,hv,hn,b.q (by omega) hb,bz.d b hl,bz.d b hr⟩
def bz.lit(c:k<n)(a m:Int)(s:YX)(b:w.heap[n]?=some (.cells #[.string {data:=#[76]},.pointer none,.pointer none,.int .i64 a,.int .i64 m,.string ⟨s.toArray⟩,.string {data:=#[]},.string {data:=#[]}] 301)):
 bz w k (fR a m s) (qP n):=⟨n,_,_,rfl,c,b,rfl,rfl⟩
def dZ(w:Za)(rb:Nat)(s:Y9)(d:Nat)(spec:Option<|aA×YV)(e:Zg)(w':Za):Prop:=
 aH rb w w'/\∃v:Y8,e=.returned (.pointer v)/\match spec with
  |some (x,r)=>bz w' rb x (.pointer v)/\RT w' rb s r d false
  |none=>∃ts' d',d<=d'/\d'<=21/\RT w' rb s ts' d' true
def dZ.some_{s:Y9}{a:Option (aA×YV)}{v:Y8}(d:a=some (R,D))(b:aH n w W)(e:bz W n R<|.pointer v)(c:RT W n s D k false):
 dZ w n s k a (.returned<|.pointer v) W:=by subst d;exact⟨b,v,rfl,e,c⟩
def dZ.none_{s:Y9}{a:Option (aA×YV)}{v:Y8}(g:a=none)(d:aH n w W)(b:k<=i)(c:i<=21)(e:RT W n s D i true):
 dZ w n s k a (.returned<|.pointer v) W:=by subst g;exact⟨d,v,rfl,D,i,b,c,e⟩
def MO(b:Bool)(x:Option<|aA×YV):Option<|aA×YV:=if b=true then none else x
def lh{a:Y4}(n:Nat)(p:a.length=n)(g:Nat){s:Y9}(b:Bool)(o:RT w i s D j b)(l:jX w k a)(d:k≠i)(c:n<=100):
 Zc prog 120 #[qP i,qL k n g] w λe h=>e=.returned (qI<|gL D b a 0)/\RT h i s (eQ D b a) j b/\aH i w h:=by
 subst p;exact RY g b o l d c
def RT.alloc{s:Y9}(h:RT w n s D k b)(o:Obj):RT (w.alloc o) n s D k b:=h.q<|by rw[V2 _ _ _ h.lt]
def RT.deep{s:Y9}(h:RT w n s D k b)(a:Nat)(x:Int)(i:x=a):RT (w.setCell ⟨n,2,none⟩<|qI x) n s D a b:=by obtain⟨p,c,d,e,g⟩:=h;subst i;exact⟨p,c,d,bS e 2 _,g⟩
def RT.c{s:Y9}(h:RT w n s D k b):
 w.cell? ⟨n,2,none⟩=some (qI k)/\w.cell? ⟨n,3,none⟩=some (.bool b)/\(∀o,w.frozen? ⟨n,o,none⟩=false):=by
 obtain⟨p,e,g,a,i⟩:=h;obtain⟨j,l,c,d,rf⟩:=a.c;exact⟨c,d,rf⟩
def iz(a:YV)(k:Nat):dh a k true=false:=rfl
def ju(a:YV)(k:Nat):ff a k true=a:=rfl
def bz.name(d:k<n)(a b:YX)(c:w.heap[n]?=some (.cells #[.string {data:=#[67]},.pointer none,.pointer none,qI 0,qI 0,.string {data:=#[]},qT a,qT b] 301)):
 bz w k (eB a b) (qP n):=⟨n,_,_,rfl,d,c,rfl,rfl⟩
def bz.one(d:k<n)(a:Nat)(x:aA)(b:Zb)(c:w.heap[n]?=some (.cells #[.string<|iX a,b,.pointer none,qI 0,qI 0,.string {data:=#[]},.string {data:=#[]},.string {data:=#[]}] 301))(e:bz w k x b):
 bz w k (ir a x) (qP n):=⟨n,_,_,rfl,d,c,e,rfl⟩
def bz.two(e:k<n)(a:Nat)(x y:aA)(b c:Zb)(d:w.heap[n]?=some (.cells #[.string<|iX a,b,c,qI 0,qI 0,.string {data:=#[]},.string {data:=#[]},.string {data:=#[]}] 301))(g:bz w k x b)(h:bz w k y c):
 bz w k (kL a x y) (qP n):=⟨n,_,_,rfl,e,d,g,h⟩
def m8(w:Za)(a:Y4){C:Y_}(t:TypeId)(b:C=(a.map λk=>qT<|bt k).toArray)(c:∀k,k∈a->4<=k/\k<51):jX (w.alloc<|.cells C t) w.heap.size a:=by refine⟨by simp,?_,c⟩;intro i h;rw[bC<|aM w _];subst b;simp[h]
def iP:Y4:=[7,46,47,45]
def tf(w:Za):jX (w.alloc<|.cells #[.string {data:=#[40]},.string {data:=#[84,82,85,69]},.string {data:=#[70,65,76,83,69]},.string {data:=#[78,85,76,76]}] 9) w.heap.size iP:=
 m8 w iP _ rfl (by decide)
def G0(v:dU)(J:n<=20)
 (H:n<20->∀d s b w,RT w d s b (n+1) false->Zc prog 185 #[qP d,qI 0] w (dZ w d s (n+1)<|v.val b))
 (M:n=20->∀b,v.val b=none){d:Nat}{s:Y9}{b:YV}{w:Za}(I:RT w d s b n false)(L:(af b).k=7):
 Zc prog 308 #[qP d] w (dZ w d s n<|v.single b):=by
 have P:=I.lt;have K:Ze<|gL b false iP 0=0/\eQ b false iP=b.tail:=by simp[Ze,gL,eQ,iP,dh,L]
 have z:=Z L;have N:=Z H;have u:=Z M;go_in;go_wp2_with fail;refine qR (Z<|lh 4 rfl 4 false (I.alloc<|.cells #[.string {data:=#[40]},.string {data:=#[84,82,85,69]},.string {data:=#[70,65,76,83,69]},.string {data:=#[78,85,76,76]}] 9) (tf w) (by omega)<|by omega) ?_;rintro U⟨o,(h:Ze _)⟩;rw[K.1];rw[K.2]at o;have B:=Z o;go_wp2_with fail;apply qR<|DZ (by omega) false B;rintro R⟨g,k⟩;by_cases D:n<20
 .have E:EW n false=false:=by simp[EW];omega
  rw[E]at g ⊢;have C:=Z g;have A:=Z<|((aH.refl d w).alloc _).trans<|h.trans k;go_wp2_with apply(N D d s b.tail R C).mono;rintro e V⟨F,a,rfl,t⟩;have i:=Z<|A.trans F;cases hv:v.val b.tail with
  |none=>
   rw[hv]at t;obtain⟨G,q,x,y,c⟩:=t;obtain⟨O,Q,rf⟩:=c.c;have l:=Z<|c.deep (q-1) ((q:Int)-1) (by omega);have r:Ze<|v.single b=none:=by rw[dU.single,dw,z,VG rfl,hv];rfl
   go_wp2_with fail;apply qR<|mU 8 (by decide) (by decide) true _ rfl l;rintro S⟨j,p⟩;rw[iz,ju]at j;go_wp2;go_ret;exact dZ.none_ r ((i.set _ _).trans p) (by omega) (by omega) j
  |some y=>
   obtain⟨x,r⟩:=y;rw[hv]at t;obtain⟨(O:Ze _),p⟩:=t;obtain⟨S,T,rf⟩:=p.c;have G:Ze<|v.single b=if (af r).k=8 then some (x,r.tail)else none:=by rw[dU.single,dw,z,VG rfl,hv];rfl
   go_wp2_with fail;refine qR (mU 8 (by decide) (by decide) false _ rfl<|Z<|p.deep n (n:Int) rfl) ?_;rintro W⟨c,l⟩;have j:=Z<|(i.set 2 _).trans l;go_wp2;go_ret;by_cases q:(af r).k=8
   .have hi:dh r 8 false=true:=by simp[dh,q]
    rw[hi]at c;have Q:ff r 8 false=r.tail:=by rw[ff,hi];rfl
    rw[Q]at c;exact dZ.some_ (by rw[G,VG q]) j (Z<|O.d<|((aH.refl _ _).set 2 _).trans l) c
   have hi:dh r 8 false=false:=by simp[dh,q]
   rw[hi]at c;exact dZ.none_ (by rw[G,VF q]) j qZ (by omega) c
 .have c:EW n false=true:=by simp[EW];omega
  rw[c]at g ⊢;have i:Ze<|v.single b=none:=by rw[dU.single,dw,z,VG rfl,u<|by omega];rfl
  have a:=Z g;go_wp2;go_ret;exact dZ.none_ i (Z<|((aH.refl d w).alloc _).trans<|h.trans k) (by omega) (by omega) a
