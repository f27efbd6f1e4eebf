import Derived.WalkSmall
import Derived.Test.YtojdpjpldokjmaaGreatDoorC14
import Derived.Test.YtojdpjpldokjmaaGreatDoorC10
set_option maxHeartbeats 0
set_option maxRecDepth 100000
set_option linter.all false
namespace Go.Proofs.YtojdpjpldokjmaaGreatDoor
open Go.Deep Go.RowKit Tryz
open Go renaming World->Za,Value->Zb,Calls->Zc,Ending->Zg,results->Zh,maxLen->Zj
open RowKit renaming Below->Zd,Hid->Ze,intOf->Zk
variable{M a:Int}{W w:World}{X Y:YX}{F:YY}{i j k n:Nat}{A B C u z:Value}{R S:aA}{G:Y7}{K:aI}{g:Y5}
def oK(v:ai):Zb:=.agg #[qI v.aC,qI v.n,qT v.s]
def JJ(b:Bool)(w:Za):Zc prog 192 #[.bool b] w<|qF (oK<|bh b) w:=by
 have HB:Ze (∀o,qB w<|w.alloc o):=λo=>qA;cases b;all_goals
  go_in;go_wp2
 .exact VI (v:=oK<|bh false) (by simp[Zh,results192,go_sem,oK,bh]) rfl ⟨rfl,HB _⟩
 .exact VI (v:=oK<|bh true) (by simp[Zh,results192,go_sem,oK,bh]) rfl ⟨rfl,HB _⟩
def UO{m:Int}(b:Int)(w:Za)(i:0<=a/\a<=3)(j:0<=b/\b<=3)(g:m=0\/m=1\/m=3):Zc prog 191 #[qI a,qI b,qI m] w<|qE (qI<|kZ a b m) w:=by
 obtain⟨x,c,rfl⟩:∃x:Nat,x<4/\(x:Int)=a:=⟨a.toNat,by omega,by omega⟩;obtain⟨y,d,rfl⟩:∃y:Nat,y<4/\(y:Int)=b:=⟨b.toNat,by omega,by omega⟩;have e:∀n:Nat,n<4->n=0\/n=1\/n=2\/n=3:=λn h=>by omega
 obtain rfl|rfl|rfl:=g<;>obtain rfl|rfl|rfl|rfl:=e x c<;>obtain rfl|rfl|rfl|rfl:=e y d;all_goals
  go_in;go_wp2;go_ret;exact⟨rfl,rfl⟩
def Qe{a b:ai}(h:a.aC<b.aC):fy a b=-1:=by unfold fy;rw[VG h]
def Qc{a b:ai}(h:b.aC<a.aC):fy a b=1:=by unfold fy;rw[VF<|by omega,VG h]
def SB{a b:ai}(c:a.aC=b.aC)(h:a.n<b.n):fy a b=-1:=by unfold fy;rw[VF<|by omega,VF<|by omega,VG<|.inl h]
def SD{a b:ai}(d:a.aC=b.aC)(c:a.n=b.n)(h:Op.bytesLess a.s b.s=true):fy a b=-1:=by unfold fy;rw[VF<|by omega,VF<|by omega,VG<|.inr ⟨c,h⟩]
def N_{a b:ai}(i:a.aC=b.aC)(d:¬a.n<b.n)(g:a.n=b.n->Op.bytesLess a.s b.s=false):fy a b=if ai.same a b=true then 0 else 1:=by
 unfold fy
 rw [VF<|by omega,VF<|by omega,VF (λe=>by
  obtain e|⟨e,c⟩:=e
  .exact d e
  .rw[g e]at c;cases c)]
 by_cases h:a=b
 .rw[VG h,VG<|ai.d h]
 rw[VF h,ai.l h,VF<|by simp]
def Jc(a b:ai)(w:Za):
 Zc prog 194 #[.agg #[.int .i64 a.aC,.int .i64 a.n,.string ⟨a.s.toArray⟩],.agg #[.int .i64 b.aC,.int .i64 b.n,.string ⟨b.s.toArray⟩]] w λe n=>e=.returned (.int .i64<|fy a b)/\Zd w.heap.size w n:=by
 have c:Ze (∀o j,Zd w.heap.size w<|(w.alloc o).alloc j):=λo j=>((VM _ _).alloc (VR _) _).alloc (by simp) _;rcases YP a.aC b.aC with hk|hk|hk
 .rw[Qe hk];generalize (⟨a.s.toArray⟩:Y9)=d;generalize (⟨b.s.toArray⟩:Y9)=g;go_in;go_wp2;go_ret;exact⟨rfl,c _ _⟩
 .by_cases i:a.n<b.n
  .rw[SB hk i];generalize (⟨a.s.toArray⟩:Y9)=d;generalize (⟨b.s.toArray⟩:Y9)=g;rw[<-hk];go_in;go_wp2;go_ret;exact⟨rfl,c _ _⟩
  by_cases d:a.n=b.n
  .cases hs:Op.bytesLess a.s b.s with
   |true=>
    rw[SD hk d hs];have g:Op.bytesLess (⟨a.s.toArray⟩:Y9).toList (⟨b.s.toArray⟩:Y9).toList=true:=by simpa using hs
    generalize (⟨a.s.toArray⟩:Y9)=h at*;generalize (⟨b.s.toArray⟩:Y9)=k at*;rw[<-hk,<-d];go_in;go_wp2;go_ret;exact⟨rfl,c _ _⟩
   |false=>
    rw[N_ hk i λ_=>hs];have l:Op.bytesLess (⟨a.s.toArray⟩:Y9).toList (⟨b.s.toArray⟩:Y9).toList=false:=by simpa using hs
    have k:=tA;have g:=yW a b;generalize (⟨a.s.toArray⟩:Y9)=p at*;generalize (⟨b.s.toArray⟩:Y9)=q at*;cases h:ai.same a b with
    |true=>
     rw[h]at g;rw[VG rfl];rw[<-hk,<-d]at g ⊢;clear i h hk d hs;go_in;go_wp2;go_ret;exact⟨rfl,c _ _⟩
    |false=>
     rw[h]at g;rw[VF<|by simp];rw[<-hk,<-d]at g ⊢;clear i h hk d hs;go_in;go_wp2;go_ret;exact⟨rfl,c _ _⟩
  rw[N_ hk i λe=>absurd e d];have l:=tA;have g:=yW a b;have h:ai.same a b=false:=ai.l λe=>d (by rw[e]);have k:(a.n==b.n)=false:=by simp[d]
  generalize (⟨a.s.toArray⟩:Y9)=p at*;generalize (⟨b.s.toArray⟩:Y9)=q at*;rw[h]at g ⊢;rw[VF<|by simp];rw[<-hk]at g ⊢;clear h hk d;go_in;go_wp2;go_ret;exact⟨rfl,c _ _⟩
 .rw[Qc hk];generalize (⟨a.s.toArray⟩:Y9)=g;generalize (⟨b.s.toArray⟩:Y9)=h;have d:¬a.aC<b.aC:=by omega
  go_in;go_wp2;go_ret;exact⟨rfl,c _ _⟩
def SU(a b:Int)(w:Za)(d:bK a)(g:bK b):
 Zc prog 240 #[qI a,qI b] w (qE (.tuple #[qI (g_ a b).1,.bool (g_ a b).2]) w):=by
 by_cases k:a=0
 .have e:g_ a b=(0,true):=by rw[g_,VG<|.inl k]
  rw[e];subst k;clear d g e;go_in;go_wp2;go_ret2;exact⟨rfl,rfl⟩
 .by_cases r:b=0
  .have e:g_ a b=(0,true):=by rw[g_,VG<|.inr r]
   rw[e];subst r;have c:(a==0)=false:=by simp[k]
   clear d g e k;go_in;go_wp2;go_ret2;exact⟨rfl,rfl⟩
  have D:(a==0)=false:=by simp[k]
  have E:(b==0)=false:=by simp[r]
  by_cases j:a=-9223372036854775808\/b=-9223372036854775808
  ·have e:g_ a b=(IntKind.i64.wrap<|a*b,decide<|a=1\/b=1):=by
    unfold g_;rw[VF λe=>e.elim k r,VG j]
   rw[e];have l:=Z e;clear e;by_cases c:a=1
   .subst c;have h:b=-9223372036854775808:=by omega
    subst h;clear l j d g;rw[show IntKind.i64.wrap (1*-9223372036854775808)=-9223372036854775808 by rw[WT];rfl,show decide ((1:Int)=1\/(-9223372036854775808:Int)=1)=true from rfl];go_in;go_wp2;go_ret2;exact⟨rfl,rfl⟩
   have o:(a==1)=false:=by simp[c]
   by_cases h:b=1
   .subst h;have i:a=-9223372036854775808:=by omega
    subst i;clear l j d g;rw[show IntKind.i64.wrap (-9223372036854775808*1)=-9223372036854775808 by rw[WT];rfl,show decide ((-9223372036854775808:Int)=1\/(1:Int)=1)=true from rfl];go_in;go_wp2;go_ret2;exact⟨rfl,rfl⟩
   have q:(b==1)=false:=by simp[h]
   have hd:decide (a=1\/b=1)=false:=by simp[c,h]
   rw[hd];by_cases i:a=-9223372036854775808
   .subst i;generalize n:IntKind.i64.wrap (-9223372036854775808*b)=L at*;clear l j d g hd;go_in;go_wp2;go_ret2;exact⟨rfl,rfl⟩
   have n:b=-9223372036854775808:=by omega
   subst n;have p:(a == -9223372036854775808)=false:=by simp[i]
   generalize t:IntKind.i64.wrap (a*-9223372036854775808)=L at*;clear l j d g hd;go_in;go_wp2;go_ret2;exact⟨rfl,rfl⟩
  have G:(a == -9223372036854775808)=false:=by simp;exact λe=>j<|.inl e
  have H:(b == -9223372036854775808)=false:=by simp;exact λe=>j<|.inr e
  have M:a.natAbs<=9223372036854775807:=by unfold bK at d;omega
  have N:b.natAbs<=9223372036854775807:=by unfold bK at g;omega
  have O:0<b.natAbs:=by omega
  have e:g_ a b=if a.natAbs<=9223372036854775807 / b.natAbs then (a*b,true)else (IntKind.i64.wrap ((a.natAbs*b.natAbs:Nat):Int),decide<|IntKind.i64.wrap ((a.natAbs*b.natAbs:Nat):Int)=-9223372036854775808/\a.natAbs=4611686018427387904 / b.natAbs*2/\4611686018427387904 % b.natAbs=0/\(a<0)≠(b<0)):=by unfold g_;rw[VF λe=>e.elim k r,VF j]
  rw[e];have i:=Z<|xQ d g;rw[e]at i;clear e;have⟨z,A⟩:((a<0/\-a=(a.natAbs:Int))\/(¬a<0/\a=(a.natAbs:Int)))/\((b<0/\-b=(b.natAbs:Int))\/(¬b<0/\b=(b.natAbs:Int))):=by omega
  obtain⟨q,P,t⟩:∃q:Nat,(9223372036854775807:Int) / (b.natAbs:Int)=(q:Nat)/\Ze (q=9223372036854775807 / b.natAbs):=⟨9223372036854775807 / b.natAbs,by simp,rfl⟩;generalize a.natAbs=x at*;generalize b.natAbs=y at*;rw[<-t]at i ⊢;have J:q<=9223372036854775807:=by rw[t];exact YC _ _
  by_cases l:x<=q
  ·rw [VG l]at i ⊢;have c:bK<|a*b:=by
    by_cases c:bK<|a*b
    .exact c
    have:=i.2 c;simp at this
   have u:=fk c;clear i t k r j;obtain⟨o,h⟩|⟨o,h⟩:=z<;>obtain⟨p,n⟩|⟨p,n⟩:=A
   .have B:IntKind.i64.wrap (-a)=(x:Int):=by rw[h];exact fk (by unfold bK;omega)
    have C:IntKind.i64.wrap (-b)=(y:Int):=by rw[n];exact fk (by unfold bK;omega)
    clear h n c d g;go_in;go_wp2;go_ret2;exact⟨rfl,rfl⟩
   .have B:IntKind.i64.wrap (-a)=(x:Int):=by rw[h];exact fk (by unfold bK;omega)
    subst n;clear h c d g;go_in;go_wp2;go_ret2;exact⟨rfl,rfl⟩
   .have B:IntKind.i64.wrap (-b)=(y:Int):=by rw[n];exact fk (by unfold bK;omega)
    subst h;clear n c d g;go_in;go_wp2;go_ret2;exact⟨rfl,rfl⟩
   subst h;subst n;clear c d g;go_in;go_wp2;go_ret2;exact⟨rfl,rfl⟩
  rw[VF l];have B:2<=y:=by
   by_cases h:2<=y
   .exact h
   have:y=1:=by omega
   rw[t,this]at l;simp at l;omega
  obtain⟨c,I,p⟩:∃c:Nat,(4611686018427387904:Int) / (y:Int)=(c:Nat)/\Ze (c=4611686018427387904 / y):=⟨4611686018427387904 / y,by simp,rfl⟩;obtain⟨n,K,u⟩:∃n:Nat,(4611686018427387904:Int) % (y:Int)=(n:Nat)/\Ze (n=4611686018427387904 % y):=⟨4611686018427387904 % y,by simp,rfl⟩;have C:c<=2305843009213693952:=by rw[p];exact Wf (XP B<|by omega)<|by decide
  rw[<-p,<-u,Int.natCast_mul];have o:decide (IntKind.i64.wrap ((x:Int)*(y:Int))=-9223372036854775808/\x=c*2/\n=0/\(a<0)≠(b<0))=((IntKind.i64.wrap ((x:Int)*(y:Int)) == -9223372036854775808)&&(((x:Int)==((c*2:Nat):Int))&&(((n:Int)==0)&&(decide (a<0) != decide (b<0))))):=by rw[WB,decide_eq_true_iff];simp only[X3,beq_iff_eq,bne_iff_ne,ne_eq,eq_iff_iff,decide_eq_decide];omega
  rw[o];have F:IntKind.i64.wrap ((c:Int)*2)=((c*2:Nat):Int):=by rw[show(c:Int)*2=((c*2:Nat):Int) by simp];exact fk (by unfold bK;omega)
  clear i t p u o k r j;generalize c*2=k at*;generalize r:IntKind.i64.wrap ((x:Int)*(y:Int))=L at*;obtain⟨o,i⟩|⟨o,i⟩:=z<;>obtain⟨p,j⟩|⟨p,j⟩:=A
  .have h:IntKind.i64.wrap (-a)=(x:Int):=by rw[i];exact fk (by unfold bK;omega)
   have t:IntKind.i64.wrap (-b)=(y:Int):=by rw[j];exact fk (by unfold bK;omega)
   rw[show(decide (a<0) != decide (b<0))=false by simp[o,p]];clear i j d g;cases hB1:(L == -9223372036854775808)<;>cases hB2:((x:Int)==(k:Int))<;>cases hB3:((n:Int)==0);all_goals
    go_in;go_wp2
   all_goals go_ret2;exact⟨rfl,rfl⟩
  .have h:IntKind.i64.wrap (-a)=(x:Int):=by rw[i];exact fk (by unfold bK;omega)
   rw[show(decide (a<0) != decide (b<0))=true by simp[o];omega];subst j;clear i d g;cases hB1:(L == -9223372036854775808)<;>cases hB2:((x:Int)==(k:Int))<;>cases hB3:((n:Int)==0);all_goals
    go_in;go_wp2
   all_goals first|go_ret2;exact⟨rfl,rfl⟩|exact VI (v:=.tuple #[qI L,.bool true]) (by simp[Zh,results240,go_sem]) rfl ⟨rfl,rfl⟩
  .have h:IntKind.i64.wrap (-b)=(y:Int):=by rw[j];exact fk (by unfold bK;omega)
   rw[show(decide (a<0) != decide (b<0))=true by simp[p];omega];subst i;clear j d g;cases hB1:(L == -9223372036854775808)<;>cases hB2:((x:Int)==(k:Int))<;>cases hB3:((n:Int)==0);all_goals
    go_in;go_wp2
   all_goals first|go_ret2;exact⟨rfl,rfl⟩|exact VI (v:=.tuple #[qI L,.bool true]) (by simp[Zh,results240,go_sem]) rfl ⟨rfl,rfl⟩
  rw[show(decide (a<0) != decide (b<0))=false by simp;omega];subst i;subst j;clear d g;cases hB1:(L == -9223372036854775808)<;>cases hB2:((x:Int)==(k:Int))<;>cases hB3:((n:Int)==0);all_goals
   go_in;go_wp2
  all_goals go_ret2;exact⟨rfl,rfl⟩
def lI(o:aV ai):Zb:=match o with
 |.ok v=>.tuple #[oK v,qI 0]
 |.error e=>.tuple #[oK aE,qI (e:Nat)]
def ow(h:bK a):fe a=.ok ⟨1,a,[]⟩:=by unfold fe;rw[VG h]
def tI(h:¬bK a):fe a=.error 4:=by unfold fe;rw[VF h]
def LO(e:bK a)(g:bK M):
 Zc prog 193 #[.string ⟨#[43]⟩,qI a,qI M] w (qF (lI<|fe<|a+M) w):=by
 have HB:Ze (∀o,qB w<|w.alloc o):=λo=>qA;by_cases b:bK<|a+M
 .rw[ow b];have h:=fk b;by_cases hs:0<=M
  .have c:a<=a+M:=by omega
   go_in;go_wp2;exact VI (v:=.tuple #[.agg #[qI 1,qI<|a+M,.string ⟨#[]⟩],qI 0]) (by simp[Zh,results193,go_sem]) rfl ⟨rfl,HB _⟩
  have c:M<0:=by omega
  have d:a+M<a:=by omega
  go_in;go_wp2;exact VI (v:=.tuple #[.agg #[qI 1,qI<|a+M,.string ⟨#[]⟩],qI 0]) (by simp[Zh,results193,go_sem]) rfl ⟨rfl,HB _⟩
 .rw[tI b];by_cases hs:0<=M
  .have d:IntKind.i64.wrap (a+M)=a+M-18446744073709551616:=by rw[WT];unfold bK at*;omega
   have c:¬a<=a+M-18446744073709551616:=by omega
   go_in;go_wp2;exact VI (v:=.tuple #[.agg #[qI 0,qI 0,.string ⟨#[]⟩],qI 4]) (by simp[Zh,results193,go_sem]) rfl ⟨rfl,HB _⟩
  have c:M<0:=by omega
  have h:IntKind.i64.wrap (a+M)=a+M+18446744073709551616:=by rw[WT];unfold bK at*;omega
  have d:¬a+M+18446744073709551616<a:=by omega
  go_in;go_wp2;exact VI (v:=.tuple #[.agg #[qI 0,qI 0,.string ⟨#[]⟩],qI 4]) (by simp[Zh,results193,go_sem]) rfl ⟨rfl,HB _⟩
def Ds(a b:Int)(w:Za)(g:bK a)(h:bK b):
 Zc prog 193 #[.string ⟨#[45]⟩,qI a,qI b] w (qF (lI<|fe<|a-b) w):=by
 have HB:Ze (∀o,qB w<|w.alloc o):=λo=>qA;by_cases c:bK<|a-b
 .rw[ow c];have i:=fk c;by_cases hs:b<=0
  .have d:a<=a-b:=by omega
   go_in;go_wp2;exact VI (v:=.tuple #[.agg #[qI 1,qI<|a-b,.string ⟨#[]⟩],qI 0]) (by simp[Zh,results193,go_sem]) rfl ⟨rfl,HB _⟩
  have d:0<b:=by omega
  have e:a-b<a:=by omega
  go_in;go_wp2;exact VI (v:=.tuple #[.agg #[qI 1,qI<|a-b,.string ⟨#[]⟩],qI 0]) (by simp[Zh,results193,go_sem]) rfl ⟨rfl,HB _⟩
 .rw[tI c];by_cases hs:b<=0
  .have e:IntKind.i64.wrap (a-b)=a-b-18446744073709551616:=by rw[WT];unfold bK at*;omega
   have d:¬a<=a-b-18446744073709551616:=by omega
   go_in;go_wp2;exact VI (v:=.tuple #[.agg #[qI 0,qI 0,.string ⟨#[]⟩],qI 4]) (by simp[Zh,results193,go_sem]) rfl ⟨rfl,HB _⟩
  have d:0<b:=by omega
  have i:IntKind.i64.wrap (a-b)=a-b+18446744073709551616:=by rw[WT];unfold bK at*;omega
  have e:¬a-b+18446744073709551616<a:=by omega
  go_in;go_wp2;exact VI (v:=.tuple #[.agg #[qI 0,qI 0,.string ⟨#[]⟩],qI 4]) (by simp[Zh,results193,go_sem]) rfl ⟨rfl,HB _⟩
def LQ(e:bK a)(g:bK M):
 Zc prog 193 #[.string ⟨#[42]⟩,qI a,qI M] w (qF (lI<|fe<|a*M) w):=by
 have HB:Ze (∀o,qB w<|w.alloc o):=λo=>qA;have d:=Z<|SU a M (w.alloc<|.cells #[qI 0,qI 0,.string ⟨#[]⟩] 34) e g;have c:=Z<|xQ e g;by_cases b:bK<|a*M
 .rw[ow b];rw[c.1 b]at d;go_in;go_wp2_with fail;apply qS d;go_wp2;exact VI (v:=.tuple #[.agg #[qI 1,qI<|a*M,.string ⟨#[]⟩],qI 0]) (by simp[Zh,results193,go_sem]) rfl ⟨rfl,HB _⟩
 .rw[tI b];rw[c.2 b]at d;generalize (g_ a M).1=L at*;go_in;go_wp2_with fail;apply qS d;go_wp2;exact VI (v:=.tuple #[.agg #[qI 0,qI 0,.string ⟨#[]⟩],qI 4]) (by simp[Zh,results193,go_sem]) rfl ⟨rfl,HB _⟩
def LP(p:bK a)(q:bK M):
 Zc prog 193 #[.string ⟨#[58]⟩,qI a,qI M] w (qF (lI<|dd 9 a M) w):=by
 have HB:Ze (∀o,qB w<|w.alloc o):=λo=>qA;by_cases d:M=0
 .subst d;rw[show dd 9 a 0=.error 5 from rfl];go_in;go_wp2;exact VI (v:=.tuple #[.agg #[qI 0,qI 0,.string ⟨#[]⟩],qI 5]) (by simp[Zh,results193,go_sem]) rfl ⟨rfl,HB _⟩
 .have e:dd 9 a M=fe (Int.tdiv a M):=by simp[dd,d]
  rw[e];have h:(M==0)=false:=by simp[d]
  by_cases g:M=-1
  .subst g;rw[show Int.tdiv a (-1)=-a by simp];by_cases c:a=-9223372036854775808
   .subst c;rw[tI (by unfold bK;omega)];go_in;go_wp2;exact VI (v:=.tuple #[.agg #[qI 0,qI 0,.string ⟨#[]⟩],qI 4]) (by simp[Zh,results193,go_sem]) rfl ⟨rfl,HB _⟩
   have b:bK<|-a:=by unfold bK at*;omega
   rw[ow b];have j:=fk b;have i:(a != -9223372036854775808)=true:=by simp[c]
   go_in;go_wp2;exact VI (v:=.tuple #[.agg #[qI 1,qI<|-a,.string ⟨#[]⟩],qI 0]) (by simp[Zh,results193,go_sem]) rfl ⟨rfl,HB _⟩
  have i:(M == -1)=false:=by simp[g]
  have c:bK<|Int.tdiv a M:=by
   unfold bK at*;have k:(Int.tdiv a M).natAbs=a.natAbs / M.natAbs:=X8 a M;have l:a.natAbs / M.natAbs<=a.natAbs:=YC _ _;by_cases j:a=-9223372036854775808
   .have b:2<=M.natAbs\/M=1:=by omega
    obtain b|rfl:=b
    .have n:a.natAbs / M.natAbs<=a.natAbs / 2:=XP b (by omega);omega
    simp;omega
   omega
  rw[ow c];have r:=fk c;go_in;go_wp2;exact VI (v:=.tuple #[.agg #[qI 1,qI<|Int.tdiv a M,.string ⟨#[]⟩],qI 0]) (by simp[Zh,results193,go_sem]) rfl ⟨rfl,HB _⟩
def LR(k:bK a)(l:bK M):
 Zc prog 193 #[.string ⟨#[37]⟩,qI a,qI M] w (qF (lI<|dd 10 a M) w):=by
 have HB:Ze (∀o,qB w<|w.alloc o):=λo=>qA;by_cases b:M=0
 .subst b;rw[show dd 10 a 0=.error 5 from rfl];go_in;go_wp2;exact VI (v:=.tuple #[.agg #[qI 0,qI 0,.string ⟨#[]⟩],qI 5]) (by simp[Zh,results193,go_sem]) rfl ⟨rfl,HB _⟩
 .have e:dd 10 a M=.ok ⟨1,Int.tmod a M,[]⟩:=by simp[dd,b]
  rw[e];have g:(M==0)=false:=by simp[b]
  by_cases d:M=-1
  .subst d;rw[show Int.tmod a (-1)=0 by simp];go_in;go_wp2;exact VI (v:=.tuple #[.agg #[qI 1,qI<|0,.string ⟨#[]⟩],qI 0]) (by simp[Zh,results193,go_sem]) rfl ⟨rfl,HB _⟩
  have h:(M == -1)=false:=by simp[d]
  have c:bK<|Int.tmod a M:=by unfold bK at*;have i:(Int.tmod a M).natAbs=a.natAbs % M.natAbs:=YA a M;have j:a.natAbs % M.natAbs<M.natAbs:=Yx _ (by omega);omega
  have n:=fk c;go_in;go_wp2;exact VI (v:=.tuple #[.agg #[qI 1,qI<|Int.tmod a M,.string ⟨#[]⟩],qI 0]) (by simp[Zh,results193,go_sem]) rfl ⟨rfl,HB _⟩
def Qp(c:Nat)(h:6<=c)(g:c<=10)(a b:Int)(w:Za)(d:bK a)(e:bK b):
 Zc prog 193 #[.string<|iX c,qI a,qI b] w (qF (lI<|dd c a b) w):=by
 obtain rfl|rfl|rfl|rfl|rfl:c=6\/c=7\/c=8\/c=9\/c=10:=by omega
 .exact LO d e
 .exact Ds a b w d e
 .exact LQ d e
 .exact LP d e
 .exact LR d e
def wE{c:ah}(h:F[i]?=some c)(a:c.is X Y=true)(f:Option Nat):eF X Y (F.drop i) i f=match f with
 |some _=>none
 |none=>eF X Y (F.drop<|i+1) (i+1)<|some i:=by
 obtain⟨b,e⟩:=VZ.1 h;rw[VJ b,e];cases f<;>simp[eF,a]
def Fu{c:ah}(h:F[i]?=some c)(a:c.is X Y=false)(f:Option Nat):eF X Y (F.drop i) i f=eF X Y (F.drop<|i+1) (i+1) f:=by obtain⟨b,e⟩:=VZ.1 h;rw[VJ b,e];cases f<;>simp[eF,a]
def nk:Option Nat->Int
 |some i=>(i:Nat)
 |none=>-1
def bz.below(b:qB w W):∀{t:aA}{v:Zb},bz w k t v->bz W k t v
 |.nil,_,h=>h
 |.node _ _ a l r,v,⟨n,vl,vr,hv,hn,hx,hl,hr⟩=>⟨n,vl,vr,hv,hn,bB b (lB hx) hx,bz.below b hl,bz.below b hr⟩
def tJ(c:ah×ai):Y0:=[qT c.1.src,qT c.1.name,qI c.1.type,qI c.2.aC,qI c.2.n,qT c.2.s]
def Ko(a b:YX):((⟨a.toArray⟩:Y9).toList==(⟨b.toArray⟩:Y9).toList)=(a==b):=by simp
def Og{l:List (ah×ai)}(j d:YX){Y:Zb}{v:Zb}(L:w.heap[n]?=some (.cells #[Y,u,z,A,B,C,.string ⟨j.toArray⟩,.string ⟨d.toArray⟩] 301))(O:br w w.heap.size 6 tJ l v)(hl:l.length<=1000):
 Zc prog 190 #[.pointer<|some ⟨n,0,none⟩,v] w λe w'=>e=.returned (.int .i64<|nk<|eE (l.map (·.1)) j d)/\Zd w.heap.size w w':=by
 have S:=Z O;obtain⟨a,c,rfl,_⟩:=O;have K:=lB L;have P:=bC L 6;have Q:=bC L 7;simp at P Q;go_in;go_wp2
 go_loopw [5,6] (λW X wr=>∃(i:Nat) (f:Option Nat),i<=l.length/\X=.int .i64 (i:Nat)/\W=.int .i64 (nk f)/\(∀k,f=some k->k<=1000)/\Ze (eF j d ((l.map (·.1)).drop i) i f=eE (l.map (·.1)) j d)/\Ze (Zd w.heap.size w wr)) (λ_ b _=>l.length-(Zk b).toNat)
 exact⟨0,none,Wi _,rfl,rfl,λk h=>(by cases h),rfl,VM _ _⟩
 case round=>
  obtain⟨i,f,hi,rfl,rfl,J,I,HB⟩:=hrel;by_cases E:i<l.length
  .have t:l[i]?=some l[i]:=VE E;have q:Ze<|(l.map (·.1))[i]?=some l[i].1:=by rw[Ze,VO,t];rfl
   obtain⟨_,_,e,T⟩:=S.below HB;cases e;obtain⟨g,rfl,hg,N⟩:=T (by rintro rfl;simp at E);have c0:=N i _ t 0 (.string ⟨l[i].1.src.toArray⟩) rfl;have c1:=N i _ t 1 (.string ⟨l[i].1.name.toArray⟩) rfl;generalize l[i].1=jx at*;have y6:=(HB.cell (p:=⟨n,6,none⟩) K).trans P;have y7:=(HB.cell (p:=⟨n,7,none⟩) K).trans Q;have V:=VT K HB.size;have r:Ze<|ah.is j d jx=(jx.name==d&&(j==[]||jx.src==j)):=rfl;have F:=Ko jx.name d;have H:=Ko jx.src j;have G:(⟨j.toArray⟩:Y9).toList.isEmpty=(j==[]):=by cases j<;>simp
   generalize (⟨jx.name.toArray⟩:Y9)=s1 at*;generalize (⟨jx.src.toArray⟩:Y9)=s2 at*;generalize (⟨d.toArray⟩:Y9)=s3 at*;generalize (⟨j.toArray⟩:Y9)=s4 at*;simp at c0 c1;have x:Ze<|ah.is j d jx=false->eF j d ((l.map (·.1)).drop<|i+1) (i+1) f=eE (l.map (·.1)) j d:=λh=>by rw[<-I,Fu q h]
   have D:Ze<|ah.is j d jx=true->(∀k,f=some k->eE (l.map (·.1)) j d=none)/\(f=none->eF j d ((l.map (·.1)).drop<|i+1) (i+1) (some i)=eE (l.map (·.1)) j d):=λh=>⟨λk hk=>by rw[<-I,wE q h,hk],λhk=>by rw[<-I,wE q h,hk]⟩;cases hb1:(jx.name==d)with
   |false=>
    rw[hb1]at F;have o:=Z<|x (by rw[r,hb1];rfl);go_upto_region 5 with fail
    go_quiet (fail)
    all_goals
     go_wp2;exact⟨⟨i+1,f,by omega,by go_num,rfl,J,o,below_drewN HB _⟩,by simp[Zk];omega⟩
   |true=>
    rw[hb1]at F;have o:Ze<|(j==[]||jx.src==j)=true->ah.is j d jx=true:=λh=>by rw[r,hb1,h];rfl
    have y:Ze<|(j==[]||jx.src==j)=false->ah.is j d jx=false:=λh=>by rw[r,hb1,h];rfl
    cases hb2:(j==[])with
    |true=>
     rw[hb2]at G;have M:=Z<|D<|o (by rw[hb2];rfl);go_upto_region 5 with fail
     go_quiet (fail)
     cases f with
     |some k=>
      have hk:=J k rfl;have U:(0:Int)<=((k:Nat):Int):=by omega
      have R:=Z<|M.1 k rfl;simp only[nk];go_wp2;go_ret;exact⟨by rw[R];rfl,below_drewN HB _⟩
     |none=>
      have R:=Z<|M.2 rfl;simp only[nk];go_wp2;exact⟨⟨i+1,some i,by omega,by go_num,rfl,λk h=>(by cases h;omega),R,below_drewN HB _⟩,by simp[Zk];omega⟩
    |false=>
     rw[hb2]at G;cases hb3:(jx.src==j)with
     |true=>
      rw[hb3]at H;have M:=Z<|D<|o (by rw[hb2,hb3];rfl);go_upto_region 5 with fail
      go_quiet (fail)
      cases f with
      |some k=>
       have hk:=J k rfl;have U:(0:Int)<=((k:Nat):Int):=by omega
       have R:=Z<|M.1 k rfl;simp only[nk];go_wp2;go_ret;exact⟨by rw[R];rfl,below_drewN HB _⟩
      |none=>
       have R:=Z<|M.2 rfl;simp only[nk];go_wp2;exact⟨⟨i+1,some i,by omega,by go_num,rfl,λk h=>(by cases h;omega),R,below_drewN HB _⟩,by simp[Zk];omega⟩
     |false=>
      rw[hb3]at H;have M:=Z<|x<|y (by rw[hb2,hb3];rfl);go_upto_region 5 with fail
      go_quiet (fail)
      go_wp2;exact⟨⟨i+1,f,by omega,by go_num,rfl,J,M,below_drewN HB _⟩,by simp[Zk];omega⟩
  obtain rfl:i=l.length:=by omega
  have g:Ze<|f=eE (l.map (·.1)) j d:=by have h:=I.o;rw[Wt<|by simp]at h;rw[<-h];cases f<;>rfl
  go_wp2;go_ret;exact⟨by rw[<-g];rfl,HB⟩
def sj:∀{ab:YY}{src name:YX}{i:Nat}{f:Option Nat}{k:Nat},eF src name ab i f=some k->(∃c,f=some c/\k=c)\/(i<=k/\k<i+ab.length)
 |[],src,name,i,f,k,h=>by simp[eF]at h;exact .inl ⟨k,h,rfl⟩
 |c::cs,src,name,i,f,k,h=>by
  unfold eF at h;split at h
  .cases f with
   |some x=>simp at h
   |none=>
    simp only at h;obtain⟨x,a,rfl⟩|⟨b,d⟩:=sj h
    .cases a;exact .inr ⟨qZ,by simp⟩
    exact .inr ⟨by omega,by simp;omega⟩
  obtain⟨x,a,hk⟩|⟨b,d⟩:=sj h
  .exact .inl ⟨x,a,hk⟩
  exact .inr ⟨by omega,by simp;omega⟩
def sd(h:eE F X Y=some k):k<F.length:=by
 obtain⟨x,b,_⟩|⟨_,a⟩:=sj h
 .cases b
 simpa using a
def pV(g:∀c∈F,0<=c.type/\c.type<=3):∀{t:aA}{k:Int},gI t->bD F t=.ok k->0<=k/\k<=3
 |.nil,k,_,h=>by simp[bD]at h;omega
 |.node _ _ p l r,k,hw,h=>by
  unfold bD at h;split at h
  .rename_i a;simp at h;have:=hw.1 a;omega
  split at h
  .cases ha:eE F p.src p.name with
   |none=>rw[ha]at h;simp at h
   |some i=>
    rw[ha]at h;simp at h;have hi:=sd ha;unfold ft at h;rw[VE hi]at h;simp at h;have:=g _<|VQ hi;omega
  have d:∀{a b:Int} {z:Int},fm p.op a b=.ok z->0<=z/\z<=3:=λ{a b z} h=>by
   unfold fm at h;split at h
   .simp at h;rw[<-h];unfold eR;split<;>omega
   cases h
  cases hl:bD F l with
  |error e=>rw[hl]at h;simp at h
  |ok a=>
   rw[hl]at h;simp only at h;split at h
   .exact d h
   cases hr:bD F r with
   |error e=>rw[hr]at h;simp at h
   |ok b=>rw[hr]at h;exact d h
def Mo(o:aV Int)(e:Zg):Prop:=match o with
 |.ok k=>e=.returned (.tuple #[qI k,qI 0])
 |.error er=>∃k:Int,e=.returned (.tuple #[qI k,qI (er:Nat)])
def OW(a b m:Int):kZ a b m=0\/kZ a b m=3:=by
 unfold kZ;split
 .exact .inr rfl
 exact .inl rfl
def SY(c:0<=a/\a<=3)(d:0<=M/\M<=3)(b:6<=n):Mo (fm n a M)<|.returned<|.tuple #[qI<|eR n,qI<|kZ a M<|cD n]:=by
 rw[JL c d b];obtain h|h:=OW a M<|cD n
 .rw[h,VG rfl];rfl
 rw[h,VF<|by decide];exact⟨_,rfl⟩
def SX(b:0<=a/\a<=3):Mo (fm n a a)<|.returned<|.tuple #[qI<|eR n,qI<|kZ a 0<|cD n]:=by
 rw[Ja b];obtain h|h:=OW a 0<|cD n
 .rw[h,VG rfl];rfl
 rw[h,VF<|by decide];exact⟨_,rfl⟩
abbrev rB(op:Nat)(vl vr:Zb)(kd m:Int)(s src name:YX):Obj:=.cells #[.string<|iX op,vl,vr,qI kd,qI m,qT s,qT src,qT name] 301
def U1(ab:List<|ah×ai)(v:Zb)(t:aA)(tv:Zb)(w:Za):Prop:=∀W,qB w W->Zc prog 133 #[tv,v] W λe w'=>Mo (bD (ab.map (·.1)) t) e/\qB W w'
def QI {d:List (ah × ai)}(y:∀ c ∈ d.map (·.1),0<=c.type/\c.type<=3)(h6:6<=i)(aa:i<=18)(hx:gI R)(hy:gI S){O P:Addr}{m:Int}{s:YX}{v:Zb}(D:w.heap[n]?=some (rB i (.pointer<|some O) (.pointer<|some P) M m s X Y))(hl:U1 d v R (.pointer<|some O) w)(hr:U1 d v S (.pointer<|some P) w)(hv:∃ a l c,v=.slice a l c){o:aV Int}(ho:o=match bD (d.map (·.1)) R with
 |.error e=>.error e
 |.ok a=>match bD (d.map (·.1)) S with
  |.error e=>.error e
  |.ok b=>fm i a b):
 Zc prog 133 #[.pointer<|some ⟨n,0,none⟩,v] w λe w'=>Mo o e/\Zd w.heap.size w w':=by
 obtain⟨va,vn,vc,rfl⟩:=hv;have HR:=Z hr;have HN:=Z D;have p:=Z ho;have A:=bC D 0;have L:=bC D 1;simp at A L;have H:=Z λk (h:bD (d.map (·.1)) R=.ok k)=>pV y hx h;have I:=Z λk (h:bD (d.map (·.1)) S=.ok k)=>pV y hy h;have E:Ze (∀e,bD (d.map (·.1)) R=.error e->e=2\/e=3):=λe h=>fB h;have F:Ze (∀e,bD (d.map (·.1)) S=.error e->e=2\/e=3):=λe h=>fB h;have K:cD i=0\/cD i=1\/cD i=3:=by
  unfold cD;split
  .exact .inr<|.inr rfl
  split
  .exact .inl rfl
  exact .inr<|.inl rfl
 obtain rfl|rfl|rfl|rfl|rfl|rfl|rfl|rfl|rfl|rfl|rfl|rfl|rfl:i=6\/i=7\/i=8\/i=9\/i=10\/i=11\/i=12\/i=13\/i=14\/i=15\/i=16\/i=17\/i=18:=by omega
 all_goals
  simp[iX,mg]at A;go_in;go_wp2_with fail;apply(Z<|hl w<|VM _ _).mono;rintro e w1⟨B,g⟩;cases hc1:bD (d.map (·.1)) R with
  |error j=>
   rw[hc1]at B p;obtain⟨k,rfl⟩:=B;have t:(((j:Nat):Int) != 0)=true:=by have:=E.o j hc1;simp;omega
   have r:Ze<|Mo o<|.returned<|.tuple #[.int .i64 0,.int .i64 (j:Nat)]:=by rw[Ze,p];exact⟨_,rfl⟩
   have q:=Z g;go_wp2;exact VI (v:=.tuple #[.int .i64 0,.int .i64 (j:Nat)]) (by simp[Zh,results133,go_sem]) rfl ⟨r,q⟩
  |ok a=>
   rw[hc1]at B p;have N:=Z<|H.o a hc1;cases B;have j:=bB g (lB D) HN;have U:=bC j 0;have y2:=bC j 2;simp at U y2;simp[iX,mg]at U;have r:=Z g;have G:=Z j;go_wp2_with fail;apply(Z<|HR w1 g).mono;rintro e w2⟨C,x⟩;have t:=Z<|r.trans<|x.mono r.size;cases hc2:bD (d.map (·.1)) S with
   |error q=>
    rw[hc2]at C p;obtain⟨k,rfl⟩:=C;have z:(((q:Nat):Int) != 0)=true:=by have:=F.o q hc2;simp;omega
    have u:Ze<|Mo o<|.returned<|.tuple #[.int .i64 0,.int .i64 (q:Nat)]:=by rw[Ze,p];exact⟨_,rfl⟩
    go_wp2;exact VI (v:=.tuple #[.int .i64 0,.int .i64 (q:Nat)]) (by simp[Zh,results133,go_sem]) rfl ⟨u,t⟩
   |ok b=>
    rw[hc2]at C p;have Q:=I.o b hc2;cases C;have q:=SY N Q h6;have J:o=fm _ a b:=p.o;rw[<-J]at q;have u:=Z<|UO b w2 N Q K;simp[eR,cD]at q u;have W:=Z q;have z:=bB x (lB j) G;have T:=lB z;have V:=bC z 0;simp at V;simp[iX,mg]at V;go_wp2_with fail;refine u.mono ?_;rintro e w3⟨rfl,rfl⟩;go_wp2_with fail;refine VI ?_ rfl ⟨W,t⟩;simp[Zh,results133,go_sem]
def QH {g:List (ah × ai)}(C:∀ c ∈ g.map (·.1),0<=c.type/\c.type<=3)(S:2<=i)(T:i<=5)(O:gI R){G:Addr}{m:Int}{s:YX}{v:Zb}(x:w.heap[n]?=some (rB i (.pointer<|some G) (.pointer none) M m s X Y))(J:U1 g v R (.pointer<|some G) w)(N:∃ a l c,v=.slice a l c){o:aV Int}(L:o=match bD (g.map (·.1)) R with
 |.error e=>.error e
 |.ok a=>fm i a a):
 Zc prog 133 #[.pointer<|some ⟨n,0,none⟩,v] w λe E=>Mo o e/\Zd w.heap.size w E:=by
 obtain⟨V,vn,vc,rfl⟩:=N;have I:=Z x;have t:=Z L;have r:=bC x 0;have D:=bC x 1;simp at r D;have z:=Z λk (h:bD (g.map (·.1)) R=.ok k)=>pV C O h;have y:Ze (∀e,bD (g.map (·.1)) R=.error e->e=2\/e=3):=λe h=>fB h;have B:Ze (∀a,0<=a/\a<=3->o=fm i a a->Mo o (.returned<|.tuple #[.int .i64<|eR i,.int .i64<|kZ a 0<|cD i])):=λa j h=>by rw[h];exact SX j
 have A:Ze (∀a W,0<=a/\a<=3->Zc prog 191 #[.int .i64 a,.int .i64 0,.int .i64<|cD i] W λe E=>e=.returned (.int .i64<|kZ a 0<|cD i)/\E=W):=λa W j=>by
  refine UO 0 W j (by omega) ?_;unfold cD;split
  .exact .inr<|.inr rfl
  split
  .exact .inl rfl
  exact .inr<|.inl rfl
 obtain rfl|rfl|rfl|rfl:i=2\/i=3\/i=4\/i=5:=by omega
 all_goals
  simp[iX,mg]at r;go_in;go_wp2_with fail;refine(U<|Z<|J w<|VM _ _).mono ?_;rintro e P⟨u,(b:Ze _)⟩;cases hc1:bD (g.map (·.1)) R with
  |error d=>
   rw[hc1]at u t;obtain⟨k,rfl⟩:=u;have q:(((d:Nat):Int) != 0)=true:=by have:=y.o d hc1;simp;omega
   have p:Ze<|Mo o<|.returned<|.tuple #[.int .i64 0,.int .i64 (d:Nat)]:=by unfold Ze;rw[t.o];exact⟨_,rfl⟩
   go_wp2_with fail;exact VI (v:=.tuple #[.int .i64 0,.int .i64 (d:Nat)]) (by simp[Zh,results133,go_sem]) rfl ⟨p.o,b.o⟩
  |ok a=>
   rw[hc1]at u t;have j:=z.o a hc1;cases u;have d:=bB b (lB x) I.o;have K:=lB d;have H:=bC d 0;have Q:=bC d 2;simp at H Q;simp[iX,mg]at H;have q:=B.o a j t.o;have p:=Z<|A.o a P j;simp[eR,cD]at q p;have F:=Z q;go_wp2_with fail
   first
    | (apply(U p).mono
       rintro e w3⟨rfl,rfl⟩;go_wp2_with fail;refine VI ?_ rfl ⟨F.o,b.o⟩
       simp[Zh,results133,go_sem])
    | (refine VI (v:=.tuple #[.int .i64 3,.int .i64 0]) (by simp[Zh,results133,go_sem]) rfl ⟨?_,b.o⟩
       have h:=F.o;rw[show kZ a 0 0=0 by simp[kZ]]at h
       exact h)
def QG{m:Int}{s:YX}(v:Zb)(d:w.heap[n]?=some (rB 0 u z M m s X Y))(i:∃a l c,v=.slice a l c):
 Zc prog 133 #[qP n,v] w λe j=>Mo (.ok M) e/\qB w j:=by
 obtain⟨k,p,o,rfl⟩:=i;have h:=lB d;have b:=bC d 0;have g:=bC d 3;simp at b g;simp[iX,mg]at b;go_in;go_wp2;exact VI (v:=.tuple #[qI M,qI 0]) (by simp[Zh,results133,go_sem]) rfl ⟨rfl,Z<|VM w.heap.size w⟩
def typeName{b:List (ah×ai)}(o:b.length<=1000){m:Int}{s:YX}{v:Zb}(p:w.heap[n]?=some (rB 1 u z a m s X Y))(q:br w w.heap.size 6 tJ b v):
 Zc prog 133 #[qP n,v] w λe C=>Mo (match eE (b.map (·.1)) X Y with
  |some i=>.ok<|ft (b.map (·.1)) i
  |none=>.error 2) e/\qB w C:=by
 have r:=Z q;have d:=Z<|Og X Y p q o;obtain⟨F,G,rfl,_⟩:=q;have B:=lB p;have j:=bC p 0;simp at j;simp[iX,mg]at j;cases hc:eE (b.map (·.1)) X Y with
 |none=>
  rw[hc]at d;simp only[nk]at d;go_in;go_wp2_with fail;apply qR d;intro h g;have c:=Z g;go_wp2;go_ret2;exact⟨⟨0,rfl⟩,c⟩
 |some i=>
  rw[hc]at d;simp only[nk]at d;have c:i<b.length:=by have:=sd hc;simpa using this
  have⟨y,A⟩:i<=1000/\(i:Int)<(b.length:Int):=by omega
  have l:Ze<|ft (b.map (·.1)) i=b[i].1.type:=by unfold Ze ft;simp[c]
  go_in;go_wp2_with fail;apply qR d;intro H h;have k:=Z h;obtain⟨_,_,e,t⟩:=r.below h;cases e;obtain⟨g,rfl,D,x⟩:=t (by rintro rfl;simp at c);have c2:=x i _ (VE c) 2 (qI b[i].1.type) rfl;generalize b[i].1.type=E at*;go_wp2;go_ret2;exact⟨by rw[l];rfl,k⟩
def bz.q{p:k_}{v:Zb}(h:bz w k (.node i j p R S) v):∃(n:Nat)(a b:Zb),v=qP n/\w.heap[n]?=some (rB p.op a b p.aC p.n p.s p.src p.name)/\bz w k R a/\bz w k S b:=by obtain⟨n,a,b,e,_,g,c,d⟩:=h;exact⟨n,a,b,e,g,c,d⟩
def bz.ptr{v:Zb}(h:bz w k R v)(c:ib R):∃a,v=.pointer (some a):=by
 cases R with
 |nil=>exact absurd c<|by simp[ib]
 |node a b p l r=>
  obtain⟨n,_,_,rfl,_⟩:=h.q;exact⟨_,rfl⟩
def KL(g:List<|ah×ai)(i:g.length<=1000)(d:∀c∈g.map (·.1),0<=c.type/\c.type<=3):∀(t:aA)(v z:Zb)(w:Za)(rb:Nat),ib t->gI t->dX t->bz w rb t z->br w w.heap.size 6 tJ g v->U1 g v t z w
 |.nil,v,z,w,rb,hw,_,_,_,_=>absurd hw<|by simp[ib]
 |.node ta tb p l r,v,z,w,rb,hw,hk,hs,ht,hv=>by
  intro W I;replace ht:=ht.below I;replace hv:=hv.below I;obtain⟨A,K,G,F⟩:=hw;obtain⟨_,j,q⟩:=hk;obtain⟨C,D,E⟩:=hs;obtain⟨n,N,L,rfl,k,J,B⟩:=ht.q;have b:∃a l c,v=.slice a l c:=by obtain⟨a,c,rfl⟩:=hv.slice;exact⟨_,_,_,rfl⟩
  by_cases o:p.op=0
  .rw[o]at k;refine(QG v k b).mono λe u h=>?_;unfold bD;rw[VG o];exact h
  by_cases x:p.op=1
  .rw[x]at k;refine(typeName i k hv).mono λe u h=>?_;unfold bD;rw[VF o,VG x];exact h
  have h:=F (by omega);obtain⟨al,rfl⟩:=J.ptr h;have H:=KL g i d l v _ W rb h j D J hv;by_cases y:p.op<=5
  .obtain rfl:=C y;have u:L=.pointer none:=B;subst u;refine QH d (by omega) y j k H b ?_
   conv=>lhs;unfold bD
   rw[VF o,VF x];cases bD (g.map (·.1)) l with
   |error e=>rfl
   |ok a=>exact VG y
  have u:=G (by omega);obtain⟨M,rfl⟩:=B.ptr u;refine QI d (by omega) A j q k H (KL g i d r v _ W rb u q E B hv) b ?_
  conv=>lhs;unfold bD
  rw[VF o,VF x];cases bD (g.map (·.1)) l with
  |error e=>rfl
  |ok a=>exact VF y
def B3(o:aV Int)(want:Int):Nat:=match o with
 |.error e=>e
 |.ok a=>if dt a want=true then 0 else 3
def DD(c:YY)(t:aA)(b:Int):B3 (bD c t) b=(aT c t b).getD 0:=by
 unfold aT B3;cases bD c t with
 |error e=>rfl
 |ok a=>cases h:dt a b<;>simp[h]
def OZ(I:List<|ah×ai)(G:0<=M/\M<=3){o:aV Int}(D:∀a,o=.ok a->0<=a/\a<=3)(C:∀e,o=.error e->e=2\/e=3){v:Zb}(A:Zc prog 133 #[u,v] w λe H=>Mo o e/\qB w H)(F:∃a l c,v=.slice a l c)(E:∃a,u=.pointer a):
 Zc prog 79 #[u,v,qI M] w (qF (qI (B3 o M:Nat)) w):=by
 obtain⟨L,O,N,rfl⟩:=F;obtain⟨K,rfl⟩:=E;have x:=Z A;have y:=Z D;have q:=Z C;generalize r:B3 o M=h;have i:=Z r;go_in;go_wp2_with refine x.mono ?_;rintro e P⟨p,(d:Ze _)⟩;cases o with
 |error b=>
  obtain⟨k,rfl⟩:=p;have n:((b:Int)==0)=false:=by have:=q.o b rfl;simp;omega
  have g:(b:Int)≠0:=by have:=q.o b rfl;omega
  have j:b≠0:=by have:=q.o b rfl;omega
  have t:b=h:=i.o;subst t;go_wp2;go_ret;exact⟨rfl,d⟩
 |ok a=>
  cases p;have J:=y.o a rfl;have n:Ze (∀b:Bool,b=(decide (0<M)&&(decide (0<a)&&(a != M)))->h=if b=true then 3 else 0):=λb B=>by
   rw[<-i];unfold B3 dt;subst B;by_cases p:a=M
   .simp[p]
   by_cases g:a=0
   .simp[g]
   by_cases j:M=0
   .simp[j]
   have:0<M:=by omega
   have:0<a:=by omega
   simp_all
  by_cases k:0<M
  .by_cases j:0<a
   .by_cases g:a=M
    .subst g;have t:h=0:=by rw[n false<|by simp];rfl
     subst t;go_wp2;go_ret;exact⟨rfl,d⟩
    have z:h=3:=by rw[n true<|by simp[k,j,g]];rfl
    subst z;have t:(a != M)=true:=by simp[g]
    go_wp2;go_ret;exact⟨rfl,d⟩
   have g:h=0:=by rw[n false<|by simp[j]];rfl
   subst g;go_wp2;go_ret;exact⟨rfl,d⟩
  have g:h=0:=by rw[n false<|by simp[k]];rfl
  subst g;go_wp2;go_ret;exact⟨rfl,d⟩
def Pc(o:aV ai)(v tv:Zb)(w:Za):Prop:=∀W,qB w W->Zc prog 134 #[tv,v] W (qF (lI o) W)
def O0{m:Int}{s:YX}(v:Zb)(b:w.heap[n]?=some (rB 0 u z M m s X Y))(k:∃a l c,v=.slice a l c):
 Zc prog 134 #[qP n,v] w λe p=>e=.returned (lI<|.ok ⟨M,m,s⟩)/\qB w p:=by
 obtain⟨q,t,r,rfl⟩:=k;have j:=lB b;have d:=bC b 0;have g:=bC b 3;have h:=bC b 4;have i:=bC b 5;simp at d g h i;simp[iX,mg]at d;have HB:Ze (∀o,qB w<|w.alloc o):=λo=>qA;go_in;go_wp2;exact VI (v:=.tuple #[.agg #[qI M,qI m,qT s],qI 0]) (by simp[Zh,results134,go_sem]) rfl ⟨rfl,HB _⟩
def Up{T:TypeId}(a:w.heap[n]?=some (.cells #[u,A,B] T))(x y z:Zb):(((w.setCell ⟨n,0,none⟩ x).setCell ⟨n,1,none⟩ y).setCell ⟨n,2,none⟩ z).heap[n]?=some (.cells #[x,y,z] T):=by have:=bS (bS (bS a 0 x) 1 y) 2 z;simpa using this
def Ut{a:Zg->Za->Prop}{d:Y_}{y b:Zb}(l:w.heap[n]?=some (.cells #[u,A,B] 34))(i:d[4]?=some (qP n))(j:d[5]?=some b)
 (k:a (.returned<|.tuple #[.agg #[C,y,z],b])<|((w.setCell ⟨n,0,none⟩ C).setCell ⟨n,1,none⟩ y).setCell ⟨n,2,none⟩ z):
 bodyPost prog f134 a Exit.ret {tmps:=d,defers:=[]} (((w.setCell ⟨n,0,none⟩ C).setCell ⟨n,1,none⟩ y).setCell ⟨n,2,none⟩ z):=by
 have c:=Up l C y z;generalize ((w.setCell ⟨n,0,none⟩ C).setCell ⟨n,1,none⟩ y).setCell ⟨n,2,none⟩ z=W at*;have e:=bC c 0;have g:=bC c 1;have h:=bC c 2;simp at e g h;refine VI (v:=.tuple #[.agg #[C,y,z],b]) ?_ rfl k;simp[Zh,results134,go_sem,Act.eval,i,j,e,g,h]
abbrev zG:Obj:=.cells #[qI 0,qI 0,.string ⟨#[]⟩] 34
def Mj{b:List (ah×ai)}(r:b.length<=1000){m:Int}{s:YX}{v:Zb}(t:w.heap[n]?=some (rB 1 u z a m s X Y))(x:br w w.heap.size 6 tJ b v)(p:eE (b.map (·.1)) X Y=some i):
 Zc prog 134 #[qP n,v] w (qF (lI<|.ok<|(b.map (·.2)).getD i aE) w):=by
 have d:qB w<|w.alloc zG:=qA;have y:=Z<|x.below d;have o:=Z<|Og X Y (bA t _) (x.below d) r;have j:=Z d;obtain⟨L,M,rfl,_⟩:=x;have F:=lB t;have l:=bC t 0;simp at l;simp[iX,mg]at l;rw[p]at o;simp only[nk]at o;have c:i<b.length:=by have:=sd p;simpa using this
 have⟨D,E⟩:i<=1000/\(i:Int)<(b.length:Int):=by omega
 have g:(b.map (·.2)).getD i aE=b[i].2:=by simp[c]
 rw[g];generalize h:b[i].2=N;have k:=Z h;clear p d g h;go_in;go_wp2_with fail;apply qR o;intro O d;have h:=bB d (by simp)<|aM w zG;have C:=lB h;have K:=bC h;have G:=bF h 0;have H:=bF h 1;have I:=bF h 2;have q:=Z<|j.trans<|d.mono j.size;obtain⟨_,_,e,A⟩:=y.below d;cases e;obtain⟨g,rfl,J,p⟩:=A (by rintro rfl;simp at c);have c3:=p i _ (VE c) 3 (qI b[i].2.aC) rfl;have c4:=p i _ (VE c) 4 (qI b[i].2.n) rfl;have c5:=p i _ (VE c) 5 (.string ⟨b[i].2.s.toArray⟩) rfl;rw[k]at c3 c4 c5;have B:=Z h;clear d o A p y k h;go_wp2;exact Ut B rfl rfl ⟨rfl,((q.setCell qZ _).setCell qZ _).setCell qZ _⟩
def qD(op:Nat)(o:aV ai):aV ai:=match o with
 |.error e=>.error e
 |.ok a=>il op a
def jE.slice{b:Y5}(h:jE w G n b K):∃a c,w.heap[n]?=some (.cells #[.slice a K.length c] 105)/\∀(i:Nat)(l:fG),b[i]?=some l->∃g,a=some ⟨g,0,none⟩/\g<w.heap.size/\w.cell? ⟨g,i,none⟩=some (gC l):=by
 obtain⟨z,j,p,t⟩:=h.box;obtain⟨rfl,e⟩|⟨g,cap,o,rfl,u,k,x,y,hs,r⟩:=p.2
 .refine⟨none,0,by rw[e];exact j,λi l d=>?_⟩;rw[V3.1<|h.len.trans e]at d;simp at d
 refine⟨_,cap,j,λi l q=>⟨g,rfl,lB k,?_⟩⟩;have d:(b.map gC)[i]?=some (gC l):=by rw[VO,q];rfl
 rw[<-r,V6]at d;split at d
 .rw[bC k];simpa using d
 cases d
def Db(b:YX){c:Y5}(h:jE w G n c K):
 Zc prog 78 #[qP n,qT b] w (qE (iA c<|bO K b) w):=by
 obtain⟨N,tc,q,(B:Ze _)⟩:=h.slice;have H:=lB q;have c0:=bC q;have F:K.length<=6:=h.ok.1;have z:=Z h;generalize E:iA c (bO K b)=out;have A:=Z E;go_in;go_wp2
 go_loop [5] (λa=>∃i:Nat,i<=K.length/\a=qI i/\Ze (∀(j:Nat) (t:bV),j<i->K[j]?=some t->t.name≠b)) (λa=>K.length-(Zk a).toNat)
 exact⟨0,qO,rfl,λj t r=>by omega⟩
 case round=>
  obtain⟨i,hi,rfl,x⟩:=hrel;by_cases o:i<K.length
  .have d:K[i]?=some K[i]:=VE o;have k:c[i]?=some (c[i]'(z.len▸o)):=VE _;generalize c[i]'(z.len▸o)=l at*;generalize K[i]=t at*;obtain⟨g,rfl,I,C⟩:=B.o i l k;obtain⟨cv,p,_,_⟩:=(z.c i l t k d).q;have J:=bC p;have D:=lB p;unfold gC at C;by_cases u:t.name=b
   ·obtain ⟨L,M⟩:=kj u;have y:Ze<|out=qP l.n:=by
     unfold Ze;rw[<-A,uR x d u];simp[iA,List.getD,k,gC]
    go_wp2;go_ret;exact⟨by rw[y];rfl,rfl⟩
   obtain⟨L,M⟩:=ku u;have y:Ze (∀(j:Nat) (s:bV),j<i+1->K[j]?=some s->s.name≠b):=λj s r hs=>by
    by_cases e:j=i
    .subst e;rw[d]at hs;cases hs;exact u
    exact x j s (by omega) hs
   go_wp2;go_round;exact⟨i+1,by omega,by go_num,y⟩;simp[Zk];omega
  have d:Ze<|out=.pointer none:=by
   unfold Ze
   rw [<-A,uQ (λj t r=>x j t (by
    have:j<K.length:=by
     obtain h|h:=Wx j K.length
     .exact h
     .rw[V7 h]at r;cases r
    omega) r)]
   rfl
  go_wp2;go_ret;exact⟨by rw[d];rfl,rfl⟩
def Hz(w:Za)(hi:Nat)(ps:List<|aA×Zb)(v:Zb):Prop:=∃a c,v=.slice a ps.length c/\(ps≠[]->∃g,a=some ⟨g,0,none⟩/\g<hi/\∀i p,ps[i]?=some p->w.cell? ⟨g,i*5+3,none⟩=some p.2)
def Hz.below{e:List (aA×Zb)}{v:Zb}(h:Hz w w.heap.size e v)(b:qB w W):Hz W W.heap.size e v:=by obtain⟨a,c,rfl,j⟩:=h;refine⟨a,c,rfl,λl=>?_⟩;obtain⟨g,rfl,d,k⟩:=j l;exact⟨g,rfl,VT d b.size,λi p n=>(VK<|b.block g d).trans<|k i p n⟩
def Ac(y:YY)(e:YW){d:List (aA×Zb)}(O:Zb)(S:Hz w w.heap.size d u)(hf:∀p∈d,Pc (bZ y e p.1) O p.2 w/\∃a,p.2=.pointer a)(hr:∃a l c,O=.slice a l c)(hl:d.length<=1000):
 Zc prog 80 #[u,O] w (J0 w<|bH y e<|d.map (·.1)):=by
 have X:=Z S;obtain⟨pa,pc,rfl,_⟩:=S;obtain⟨ra,rn,rc,rfl⟩:=hr;obtain⟨i0,hi,L,M,N⟩:=V5 mK;have U:=Z hf;generalize ho:bH y e (d.map (·.1))=o;have W:=Z ho;have H:Ze<|KR w w o y e d 0 qN []:=⟨qW,VP _ _ _ _,rfl,by rw[<-W];simp;cases bH y e (d.map (·.1))<;>simp[rU]⟩;go_in;go_wp2
 go_loopw [6,7] (λs6 s7 wr=>∃(i:Nat) (h:YW),i<=d.length/\s7=qI i/\Ze (KR w wr o y e d i s6 h)) (λ_ a _=>d.length-(Zk a).toNat)
 exact⟨0,[],qO,rfl,H⟩
 case round=>
  obtain⟨i,h,ac,rfl,q⟩:=hrel;obtain⟨n,j,A,(B:Ze _)⟩:=q.o;obtain⟨va,vn,vc,rfl⟩:=aF j;have aa:=n.size;by_cases z:i<d.length
  .have K:d[i]?=some d[i]:=VE z;have Q:Ze<|d.drop i=d[i]::d.drop (i+1):=VJ z;have F:=VQ z;generalize d[i]=p at*;obtain⟨pt,ad⟩:=p;obtain⟨_,_,he,t⟩:=X.below n;cases he;obtain⟨g,rfl,ab,x⟩:=t (by rintro rfl;simp at z);have Y:=x i _ K;simp only at Y;obtain⟨k,pq,G⟩:=U.o _ F;simp only at G k;subst G;have b:=Z<|k wr n;have r:=Z n;have D:=Z j;clear n j q k t x;cases hev:bZ y e pt with
   |error q=>
    have C:((q:Int) != 0)=true:=by have:=jc hev;simp;omega
    rw[hev]at b;have x:Ze<|o=.error q:=by rw[Ze,B,Q];exact CX hev
    simp only[lI,oK,aE]at b;go_wp2_with fail;apply qR b;intro E t;have k:=Z<|r.trans<|t.mono r.size;go_wp2;go_ret2;exact⟨k.alloc k.size _,.inl ⟨q,x,rfl⟩⟩
   |ok x=>
    rw[hev]at b;have V:Ze<|o=rU (h++[x]) (bH y e<|(d.drop<|i+1).map (·.1)):=by rw[Ze,B,Q];exact Ao hev
    simp only[lI,oK]at b;go_wp2_with fail;apply qR b;intro P E;have t:=Z<|r.trans<|E.mono r.size;have q:=aB E D;have T:w.heap.size<=P.heap.size:=t.size;go_wp2_with (at_builtin;refine VS _ rfl (.tmp 29) (.tmp 31) 32 rfl w.heap.size 34 i0 _ 3 32 underlying32 hi L M N rfl (by decide) _ _ _ rfl ((q.alloc _).alloc _) ⟨P.heap.size+1,0,none⟩ 1 1 (vC x) rfl rfl ?c1 ?c2 ?c3 ?c4 ?c5 ?_)
    case c1=>exact uC P _ (vC x) 34
    case c2=>exact EP x
    case c3=>unfold Zj;omega
    case c4=>omega
    case c5=>simp;omega
    intro v' w4 C J R;have I:Ze<|KR w w4 o y e d (i+1) v'<|h++[x]:=by refine⟨a_ ((t.alloc t.size _).alloc (by have:=t.size;simp;omega) _) J (λk hk=>(q.lt k hk).1) (by simp;omega),?_,by simp[A],V⟩;rw[pS,xE,VH,V_,A];exact C
    go_wp2;go_roundw;exact⟨i+1,h++[x],by omega,by go_num,I⟩;simp[Zk];omega
  have g:Ze<|o=.ok h:=by unfold Ze;rw[B,Wo<|by omega];simp[bH,rU]
  have HB:=Z n;have b:=Z j;go_wp2;go_ret2;exact⟨HB,.inr ⟨h,_,g,rfl,b⟩⟩
def dA{e:TypeId}{v:Zb}{c:Y0}(h:w.ownsRow k e i v n c){j:Nat}{u:Zb}(a:c[j]?=some u):∃g cap,v=qL g n cap/\k<=g/\g<w.heap.size/\w.cell? ⟨g,j,none⟩=some u:=by
 obtain⟨rfl,l⟩|⟨g,cap,d,rfl,o,b,q,r,hs,p⟩:=h.2
 .have:=h.1;rw[l]at this;simp at this;subst this;simp at a
 refine⟨g,cap,rfl,o,lB b,?_⟩;rw[<-p,V6]at a;split at a
 .rw[bC b];simpa using a
 cases a
def jE.d(h:jE w G n g K)(b:i<K.length):∃l,g[i]?=some l/\K[i]?=some (ak K i)/\iA g (some i)=qP l.n:=by
 have a:i<g.length:=by rw[h.len];exact b
 refine⟨g[i],VE a,?_,?_⟩
 .rw[VE b];simp[ak,List.getD,b]
 simp[iA,List.getD,a,gC]
def zW(lo:Nat)(w:Za)(M:Y7)(b:Nat)(o:aI×iW)(e:Zg)(w':Za):Prop:=
 e=.returned (qI (o.2.err:Nat))/\∃M' lay',ei lo w M b o.1 w' M' lay'
def Nx:(prog.info? 154).map (λi=>(i.zero,i.size,i.bytes))=some (some<|.pointer none,1,8):=by kernel_rfl
def PD(C:Nat){s:aX}(hs:eL s)(hk:s.aC=99)(V:Nat){W:Y0}{u0 u3 u4 u5 u6 u7 u8 u9:Zb}{b:Nat}{J:Y5}(h:jE w G b J K)(az:C<=w.heap.size)
 (hn:w.heap[n]?=some (.cells #[u0,qT s.table,z,u3,u4,u5,u6,u7,u8,u9] 111))(Y:w.ownsRow V 157 5 z (fJ s).length W)(aw:CL (fJ s) W)(av:∀k,z.ownBlock=some k->C<=k):
 Zc prog 48 #[qP b,qP n] w (zW C w G b<|dk K s):=by
 have HS:=Z hs;have n1:=bC hn;have aQ:(fJ s).length<=5:=by simp[fJ];exact(hs.create hk).1
 have P:=Z<|Db s.table h;have HN:=Z hn;have T:=Z h;have D:=Z Y;have E:=Z aw;have ah:=Z av;obtain⟨ca,cc,rfl,aJ⟩:=cz Y;have I:gX (fJ s)=s.c.map (·.name):=by simp[gX,fJ]
 generalize au:dk K s=out;have p:=Z au;have F:Ze (∀er o,out=(K,di er)->qB w o->zW C w G b out (.returned<|qI (er:Nat)) o):=λer o ho hb=>by rw[ho];exact⟨rfl,G,J,ei.below h hb⟩
 have U:Ze (∀o M' t D',out=(D',di 0)->ei C w G b D' o M' t->zW C w G b out (.returned<|qI 0) o):=λo M' t D' ho aA=>by rw[ho];exact⟨rfl,M',t,aA⟩
 generalize zW C w G b out=r at*;obtain⟨ta,tc,(y:Ze _),_⟩:=h.slice;cases hta:bO K s.table with
 |some i=>
  have c:=Z<|F 2 w (by rw[<-p];rw[dk,hta];simp) qW;obtain⟨l,_,_,a⟩:=T.d<|cx hta;rw[hta,a]at P;go_in;go_wp2_with fail;apply qS P;go_wp2;exact c
 |none=>
  rw[hta]at P;simp only[iA]at P;have aj:Ze (nr (gX<|fJ s)=true->∀o,qB w o->r (.returned<|qI 2) o):=λhd o=>F 2 o (by rw[<-p];rw[dk,hta,<-I,hd];simp);have ai:Ze (nr (gX<|fJ s)=false->K.length=6->∀o,qB w o->r (.returned<|qI 6) o):=λhd M o=>F 6 o (by rw[<-p];rw[dk,hta,<-I,hd,VF<|by simp,VG M]);have S:Ze<|nr (gX<|fJ s)=false->K.length≠6->out=(K++[⟨s.table,fJ s,[]⟩],di 0):=λhd M=>by rw[<-p];rw[dk,hta,<-I,hd,VF<|by simp,VF M];rfl
  have an:Ze<|out=(K++[⟨s.table,fJ s,[]⟩],di 0)->ec (K++[⟨s.table,fJ s,[]⟩]):=λho=>by have:=nW HS T.ok;unfold d_ at this;rw[VG hk,p,ho]at this;exact this
  have aL:=T.ok.1;generalize fJ s=l at*;go_in;go_wp2_with refine P.mono ?_;rintro e x⟨rfl,rfl⟩;go_wp2
  go_loopw [6] (λa wr=>∃(i q:Nat),i<=l.length/\a=qI i/\wr=x.drewN q/\Ze (nr (gX l)=ig (gX<|l.take i) (gX<|l.drop i))) (λa _=>l.length-(Zk a).toNat)
  exact⟨0,0,qO,rfl,rfl,rfl⟩;obtain⟨i,q,hi,rfl,rfl,HD⟩:=hrel;by_cases ab:i<l.length
  .have N:l[i]?=some l[i]:=VE ab;have H:Ze<|l.drop i=l[i]::l.drop (i+1):=VJ ab;have R:Ze<|l.take (i+1)=l.take i++[l[i]]:=by rw[Ze,V9,N];rfl
   generalize l[i]=c at*;obtain⟨g,_,he,_,aN,e0⟩:=dA D (E i c N).1;cases he;have aO:(i:Int)<(l.length:Int):=by omega
   go_wp2
   go_loopw [7] (λa wr=>∃(j q2:Nat),j<=i/\a=qI j/\wr=x.drewN q2/\Ze (∀q d,q<j->l[q]?=some d->d.1≠c.1)) (λa _=>i-(Zk a).toNat)
   exact⟨0,q,qO,rfl,rfl,λq d u=>by omega⟩;obtain⟨j,q2,hj,rfl,rfl,L⟩:=hrel;by_cases ay:j<i
   .have B:l[j]?=some (l[j]'(by omega)):=VE _;generalize l[j]'(by omega)=d at*;obtain⟨_,_,X,_,_,f0⟩:=dA D (E j d B).1;cases X;have aP:(j:Int)<(l.length:Int):=by omega
    go_upto_region 10 with fail
    by_cases u:d.1=c.1
    ·have Q:Ze<|nr (gX l)=true:=by
      unfold Ze;rw[HD,H];show ig _ (c.1::gX (l.drop<|i+1))=true;rw[ig];have hm:c.1∈gX (l.take i):=by unfold gX;rw[VV];refine⟨d,?_,u⟩;rw[Wn];exact⟨j,by rw[V6,VG ay];exact B⟩
      simp[hm]
     have HP:=Z λm=>aj Q _<|below_drewN (VM x.heap.size x) m;obtain⟨qa,qb⟩:=kj u.symm
     go_cut [46]from 25 to 46 (λA wx=>∃O:Nat,A=.bool true/\wx=x.drewN O)
     case first=>
      go_quiet (fail)
      all_goals go_wp2_with fail
      all_goals go_meet
      all_goals exact⟨_,rfl,by first|rfl|rw[XX]⟩
     obtain⟨O,rfl,rfl⟩:=hcut;go_wp2;exact HP _
    obtain⟨qa,qb⟩:=ku (λh=>u h.symm:¬c.1=d.1);have Q:Ze (∀q O,q<j+1->l[q]?=some O->O.1≠c.1):=λq O aR A=>by
     by_cases e:q=j
     .subst e;rw[B]at A;cases A;exact u
     exact L q O (by omega) A
    go_cut [46]from 25 to 46 (λaF wx=>∃q3:Nat,aF=.bool false/\wx=x.drewN q3)
    case first=>
     go_quiet (fail)
     all_goals go_wp2_with fail
     all_goals go_meet
     all_goals exact⟨_,rfl,by first|rfl|rw[XX]⟩
    obtain⟨q3,rfl,rfl⟩:=hcut;go_wp2;go_roundw;exact⟨j+1,q3,by omega,by go_num,rfl,Q⟩;simp[Zk];omega
   have p:Ze<|nr (gX l)=ig (gX<|l.take<|i+1) (gX<|l.drop<|i+1):=by
    unfold Ze;rw[HD,H,R];show ig _ (c.1::gX (l.drop<|i+1))=_;rw[ig];have B:(gX<|l.take i).contains c.1=false:=by
     rw[Xm];intro h;rw[WM]at h;unfold gX at h;rw[VV]at h;obtain⟨d,hd,A⟩:=h;obtain⟨q,u⟩:=Wn.1 hd;rw[V6]at u;split at u
     .exact L q d (by omega) u A
     cases u
    rw[B,Yq];unfold gX;rw[Wc];rfl
   go_wp2;go_roundw;exact⟨i+1,q2,by omega,by go_num,rfl,p⟩;simp[Zk];omega
  have N:Ze<|nr (gX l)=false:=by unfold Ze;rw[HD,Wt<|by omega];rfl
  have c:qB x<|x.drewN q:=below_drewN qW q;generalize x.drewN q=d at*;have A:=bB c (lB y) y;have c2:=bC A;have aH:=lB A;have ac:=bB c (lB hn) HN;have d1:=bC ac;have aK:=lB ac;have ae:=c.size;have af:=Z c;by_cases M:K.length=6
  .have j:(((List.length K:Nat):Int)==6)=true:=by simp;omega
   have g:=Z<|ai N M _ c;go_wp2;exact g
  have g6:(((List.length K:Nat):Int)==6)=false:=by simp;omega
  have R:=Z<|S N M;have Q:=Z<|an R;obtain⟨i0,ax,aC,aD,aE⟩:=V5 Nx;have H5:=Z<|aB c (T.q y).1;generalize hO:Obj.cells #[qT s.table,.slice ca l.length cc,qN] 159=O;generalize X:Obj.cells #[qP d.heap.size] 154=L;have ag:Ze<|qB x ((d.alloc O).alloc L).drew:=(((af.alloc (by omega) _).alloc (by simp;omega) _).drew);have al:Ze<|((d.alloc O).alloc L).drew.heap[d.heap.size]?=some O:=bA (aM _ _) _;have am:Ze (∀j u,([qP d.heap.size]:Y0)[j]?=some u->((d.alloc O).alloc L).drew.cell? ((⟨d.heap.size+1,0,none⟩:Addr).add j)=some u):=by subst X;exact uC d O [qP d.heap.size] 154
  have ao:Ze (∀u∈([qP d.heap.size]:Y0),u.oneCell'=true):=by intro u hu;simp at hu;subst hu;rfl
  have ak:Ze<|K.length+1<=Zj:=by unfold Ze Zj;omega
  have aq:Ze<|(K.length+1)*8<=140737488355328:=by unfold Ze;omega
  have ar:Ze<|0<=((d.alloc O).alloc L).drew.heap.size:=qO;have H:Ze (∀w4 v',w4.ownsRow 0 154 1 v' (K.length+1) (J.map gC++[qP d.heap.size])->((d.alloc O).alloc L).drew.grownBy w4 (Zb.ownBlock<|.slice ta K.length tc)->(∀k,v'.ownBlock=some k->Zb.ownBlock (.slice ta K.length tc)=some k\/((d.alloc O).alloc L).drew.heap.size<=k)->w4.heap[b]?=some (.cells #[.slice ta K.length tc] 105)/\r (.returned<|qI 0) (w4.setCell ⟨b,0,none⟩ v')):=by intro w4 v' h1 h2 h3;subst hO;obtain⟨a1,a2⟩:=On (lo:=C) T ag al ae D E ah az y h1 h2 h3 Q;exact⟨a1,U _ _ _ _ R a2⟩
  subst hO;subst X;go_upto_region 14 with fail
  go_region_law (refine kE rfl (.tmp 57) (.tmp 68) rfl i0 underlying103 ax aC aD aE rfl (by decide) rfl ((H5.alloc _).alloc _) ⟨d.heap.size+1,0,none⟩ 1 1 [qP d.heap.size] rfl rfl am ao ak aq ar ?_;intro v' o g aa B;obtain⟨g',aG,rfl⟩:=pP g;obtain⟨c,ad⟩:=H.o _ _ g aa B;have c4:=bC c 0;simp at c4;have f4:=bF c 0;have aS:=lB c;have ap:=Z ad;clear ad c g aa B)
  all_goals go_wp2_with fail
  all_goals exact ap
