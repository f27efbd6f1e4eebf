import Derived.Deep.RegionWith
import Derived.Deep.DeepFit
import Derived.Deep.DeepCutAuto
import Derived.Deep.LoopGhost
import Derived.Deep.Trees
import Derived.Test.YtojdpjpldokjmaaGreatDoorC01
set_option maxHeartbeats 0
set_option maxRecDepth 100000
set_option linter.all false
namespace Go.Proofs.YtojdpjpldokjmaaGreatDoor
open Go.Deep Go.RowKit Tryz
open Go renaming World->Za,Value->Zb,TypeId->Zf,results->Zh
open RowKit renaming Hid->Ze
variable{i j k n:Nat}{W w x:World}{X Y:YX}{u:Value}
def aH.cell(h:aH n w W)(b:k<w.heap.size)(a:k≠n):W.cell? ⟨k,i,none⟩=w.cell? ⟨k,i,none⟩:=
 VK (w:=w) (h.block k b a)
def iL(w:Za)(o:Obj)(a:n=w.heap.size):(w.alloc o).heap[n]?=some o:=by subst a;exact aM w o
def size_set(w:Za)(a:Addr)(v:Zb):(w.setCell a v).heap.size=w.heap.size:=by simp[Za.setCell]
def xu{e:Zf}{v:Zb}{c:Y0}(h:w.ownsRow i e j v n c):∀k,v.ownBlock=some k->∃a,w.heap[k]?=some (.cells a e (0,0)):=by
 intro k hk;obtain⟨rfl,_⟩|⟨g,cap,a,rfl,_,b,_⟩:=h.2
 .cases hk
 simp[Zb.ownBlock]at hk;subst hk;exact⟨a,b⟩
def aH.grown{b:Option Nat}(h:aH n w W)(a:W.grownBy x b)(d:∀k,b=some k->w.heap.size<=k):aH n w x:=
 ⟨a.os.trans h.os,a.tape.trans h.tape,a.output.trans h.output,Wf h.size a.size,λi hi c=>(a.block i (VT hi h.size) (λe=>by have:=d i e.symm;omega)).trans<|h.block i hi c⟩
def dM{e:Zf}{v:Zb}{c:Y0}(p:aH k w W)(t:k<i)(h:w.ownsRow i e j v n c):W.ownsRow i e j v n c:=by
 obtain⟨d,b⟩:=h;refine⟨d,?_⟩;obtain b|⟨g,cap,a,q,l,o,r⟩:=b
 .exact .inl b
 exact .inr ⟨g,cap,a,q,l,p.q (by omega) o,r⟩
def aF{e:Zf}{v:Zb}{d:Y0}(h:w.ownsRow k e i v n d):∃a m c,v=.slice a m c:=by
 obtain⟨rfl,_⟩|⟨g,cap,b,rfl,_⟩:=h.2
 .exact⟨_,_,_,rfl⟩
 exact⟨_,_,_,rfl⟩
def addr_add(n j:Nat):(⟨n,0,none⟩:Addr).add j=⟨n,j,none⟩:=by unfold Addr.add;split<;>simp_all
def cW(w:Za)(C:Y0)(t:Zf):∀j u,C[j]?=some u->(w.alloc<|.cells C.toArray t).cell? ((⟨w.heap.size,0,none⟩:Addr).add j)=some u:=by intro j u a;rw[addr_add,bC<|aM w _];simpa using a
def infoByte:(prog.info? 5).map (λi=>(i.zero,i.size,i.bytes))=some (some<|.int .u8 0,1,1):=by kernel_rfl
def byteCells(l:YX):Y0:=l.map λc=>Zb.int .u8 c.toNat
def bN{e:Zf}{v:Zb}{d:Y0}(h:w.ownsRow k e i v n d):∃a c,v=.slice a n c:=by
 obtain⟨rfl,rfl⟩|⟨g,cap,b,rfl,_⟩:=h.2
 .exact⟨none,0,rfl⟩
 exact⟨_,_,rfl⟩
def FE{a:Y8}(h:w.ownsRow k 5 1 (.slice a X.length j) X.length<|byteCells X):
 (convert 83 9<|.slice a X.length j).run prog w=.ok (qT X) w:=by
 obtain⟨e,l⟩|⟨g,cap,d,e,_,_⟩:=h.2
 .injection e with e1 e2 e3;subst e1;have:X=[]:=by simpa using l
  subst this;exact run_convert_bytes_nil (P:=prog) w 83 5 underlying83 underlying5 _ _ 9 underlying9
 .injection e with e1 e2 e3;subst e1
  have:=run_convert_bytes_arg (P:=prog) w 83 5 underlying83 underlying5 g 0 X.length j (X.map λj=>(j.toNat:Int)) (by simp) (by
   intro i hi;have c:=(h.cells (g:=g) rfl) i (.int .u8 X[i].toNat) (by unfold byteCells;simp[hi]);have b:(⟨g,0,none⟩:Addr).add i=⟨g,0+i,none⟩:=by unfold Addr.add;split<;>simp_all
   rw[b]at c;rw[c]
   simp[Wm,hi]) 9 underlying9
  rw[this];unfold strOfNums;rw[Ww,show X.map ((λn:Int=>UInt8.ofNat n.toNat) ∘ λj:UInt8=>(j.toNat:Int))=X from(Yb λj _=>by simp).trans (List.map_id X)]
def Ig{v:Zb}(k:Int)(g:X.length<=1048576)(b:w.ownsRow n 5 1 v X.length<|byteCells X):
 Calls prog 207 #[v,qI k] w (qF (if 40<X.length then .tuple #[iu,qI 0]else .tuple #[.agg #[qI 3,qI 0,qT X],qI k]) w):=by
 obtain⟨a,c,rfl⟩:=bN b;by_cases d:40<X.length
 .rw[VG d];go_in;go_wp2_with refine VI (v:=.tuple #[iu,qI 0]) ?_ rfl ⟨rfl,qA⟩;simp[Zh,results207,go_sem,iu]
 .rw[VF d];have e:=FE<|b.alloc<|.cells #[qI 0,qI 0,.string ⟨#[]⟩] 180;go_in;go_wp2_with refine VI (v:=.tuple #[.agg #[qI 3,qI 0,qT X],qI k]) ?_ rfl ⟨rfl,?_⟩
  .simp[Zh,results207,go_sem]
  exact qA
def sO(s:Y9)(k:Nat)(acc:YX):Prop:=bj [] (aq s 1)=bj acc (aq s k)
def Gi{s:Y9}(a:k<s.size)(h:sO s k X)(b:s[k].toNat≠39):sO s (k+1)<|X++[s[k]]:=by
 unfold sO at*;rw[h,cJ s k a];by_cases c:k+1<s.size
 .rw[cJ s (k+1) c,bj,VF b]
 rw[gK s (k+1)<|by omega];simp[bj,b]
def Ls{s:Y9}(a:k+1<s.size)(h:sO s k X)(b:s[k].toNat=39)(c:s[k+1].toNat=39):sO s (k+2)<|X++[s[k+1]]:=by unfold sO at*;rw[h,cJ s k<|by omega,cJ s (k+1) a,bj,VG b,VG c,Ax b,Ax c]
def Lr{s:Y9}(b:k<s.size)(h:sO s k X)(c:s[k].toNat=39)(a:¬k+1<s.size\/∃h:k+1<s.size,s[k+1].toNat≠39):
 bj [] (aq s 1)=(if 40<X.length then dF else ⟨3,0,X⟩,aq s<|k+1):=by
 unfold sO at h;rw[h,cJ s k b];obtain a|⟨d,a⟩:=a
 .rw[gK s (k+1)<|by omega,bj,VG c]
 .rw[cJ s (k+1) d,bj,VG c,VF a]
def IW{s:Y9}(a:¬k<s.size)(h:sO s k X):(bj []<|aq s 1).1.k=99:=by unfold sO at h;rw[h,gK s k<|by omega,bj];rfl
def Vl(s:Y9)(c:k<s.size)(b:s[k].toNat=39):List.isPrefixOf [39,39] (s.extract k s.size).data.toList=true↔∃h:k+1<s.size,s[k+1].toNat=39:=by
 have e:(s.extract k s.size).data.toList=aq s k:=by rw[nY,VX<|by simp];rfl
 rw[e,cJ s k c];by_cases a:k+1<s.size
 .rw[cJ s (k+1) a];simp only[List.isPrefixOf,X3,beq_iff_eq];constructor
  .rintro⟨_,h,_⟩;exact⟨a,by rw[<-h];rfl⟩
  rintro⟨_,h⟩;exact⟨(Ax b).symm,(Ax h).symm,trivial⟩
 rw[gK s (k+1)<|by omega];simp[List.isPrefixOf,a]
def Dp{wr:Za}{c:UInt8}{v:Zb}{C:Y_}{t:Zf}{X:Obj}(h:wr.ownsRow (w.heap.size+1) 5 1 v Y.length<|byteCells Y)(d:wr.heap[w.heap.size]?=some X)(j:qB w wr)
 (a:W.ownsRow (w.heap.size+1) 5 1 u (Y.length+1)<|byteCells Y++[.int .u8 (c.toNat:Nat)])(b:(wr.alloc<|.cells C t).grownBy W v.ownBlock):
 W.ownsRow (w.heap.size+1) 5 1 u (Y++[c]).length (byteCells<|Y++[c])/\Ze (W.heap[w.heap.size]?=some X)/\Ze (qB w W):=by
 have g:∀k,v.ownBlock=some k->w.heap.size+1<=k:=λk e=>(h.lt k e).1;have l:=lB d;refine⟨by unfold byteCells at*;simpa using a,?_,?_⟩
 .show W.heap[w.heap.size]?=some X;rw[b.block w.heap.size (by simp;omega) (λe=>by have:=g _ e.symm;omega)];exact bA d _
 .exact(j.alloc j.size _).trans ⟨b.os,b.tape,b.output,b.size,λi hi=>b.block i (by simp;omega) (λe=>by have:=g _ e.symm;omega)⟩
def Jk(X:lL)(s:Y9)(w:Za)(P:s.size<=1048576)(O:0<s.size):
 Calls prog 147 #[.string s] w λe K=>e=.returned (fZ (bj []<|aq s 1) s.data.toList)/\Below w.heap.size w K:=by
 obtain⟨F,hi,r,t,x⟩:=V5 infoByte;go_in;go_wp2
 go_loopw [4,5] (λv a wr=>∃(k:Nat) (b:YX),1<=k/\k<=s.size/\b.length<=k/\a=qI k/\Ze (sO s k b)/\wr.ownsRow (w.heap.size+1) 5 1 v b.length (byteCells b)/\Ze (wr.heap[w.heap.size]?=some (.cells #[qI 0,qI 0,.string ⟨#[]⟩] 180))/\Ze (qB w wr)) (λ_ a _=>s.size-(intOf a).toNat)
 exact⟨1,[],by omega,by omega,by simp,rfl,rfl,VP _ _ _ _,aM _ _,qA⟩
 case round=>
  obtain⟨k,b,hk,J,H,rfl,o,c,HB,p⟩:=hrel;obtain⟨Q,R,rfl⟩:=bN c;have n:w.heap.size<wr.heap.size:=lB HB;by_cases j:k<s.size
  .by_cases q:s[k].toNat=39
   .have D:=Z<|Vl s j q;have y:Ze (∀w,Calls prog 206 #[.string<|s.extract k s.size,.string ⟨#[39,39]⟩] w<|qE (.bool<|List.isPrefixOf [39,39] (s.extract k s.size).data.toList) w):=λw=>(Z X.pre) _ _ w;have I:(((s[k].toNat:Nat):Int)==39)=true:=by simp;omega
    cases hp:List.isPrefixOf [39,39] (s.extract k s.size).data.toList
    ·have C:=Z (Lr j o q (by
      by_cases B:k+1<s.size
      .exact .inr ⟨B,λh=>by rw[D.2 ⟨B,h⟩]at hp;cases hp⟩
      .exact .inl B))
     have d:=Z λL (h:wr=L)=>h▸Ig ((k:Int)+1) (by omega) c;have i:=HB.o;have u:=bC i 0;have z:=bC i 1;have A:=bC i 2;have M:=bF i;simp at u z A;by_cases g:40<b.length
     .rw[VG g]at d;have G:Ze<|fZ (bj []<|aq s 1) s.data.toList=.tuple #[iu,.int .i64 0]:=lu (by rw[C,VG g];rfl);go_wp2_with fail;apply qS<|y _;rw[hp];go_wp2_with fail;apply qR<|d _ rfl;intro S E;obtain⟨c1,N⟩:=dN E;unfold iu;go_wp2_with fail;refine VI (v:=.tuple #[iu,qI 0]) ?_ rfl ⟨by rw[G],?_⟩
      .simp[Zh,results147,go_sem,iu,c1,n,u,z,A]
      exact eJ (p.trans<|E.mono<|by omega) _ _ _
     rw[VF g]at d;have G:Ze<|fZ (bj []<|aq s 1) s.data.toList=.tuple #[.agg #[.int .i64 3,.int .i64 0,.string ⟨b.toArray⟩],.int .i64<|(k:Int)+1]:=by unfold Ze;rw[C,VF g,ml (by show(3:Nat)≠99;decide),kg];simp only;rw[show(s.data.toList.length-(aq s<|k+1).length:Nat)=k+1 by unfold aq;simp;omega];rfl
     go_wp2_with fail;apply qS<|y _;rw[hp];go_wp2_with fail;apply qR<|d _ rfl;intro S E;obtain⟨c1,N⟩:=dN E;go_wp2_with refine VI (v:=.tuple #[.agg #[qI 3,qI 0,qT b],qI<|(k:Int)+1]) ?_ rfl ⟨by rw[G],?_⟩
     .simp[Zh,results147,go_sem,c1,n,u,z,A]
     exact eJ (p.trans<|E.mono<|by omega) _ _ _
    obtain⟨G,hd⟩:=D.1 hp;have E:=Z<|Ls G o q hd;clear q o hd;go_wp2_with apply(y _).mono;rintro e C⟨rfl,rfl⟩;rw[hp];go_wp2_with (at_builtin;refine VS _ rfl (.tmp 29) (.tmp 33) 83 rfl (w.heap.size+1) 5 F _ 1 1 underlying83 hi r t x rfl (by decide) _ _ _ rfl (c.alloc _) ⟨C.heap.size,0,none⟩ 1 1 [.int .u8 (s[k+1].toNat:Nat)] rfl rfl ?c1 ?c2 ?c3 ?c4 ?c5 ?_)
    case c1=>exact cW C [.int .u8 (s[k+1].toNat:Nat)] 5
    case c2=>intro u B;simp at B;subst B;rfl
    case c3=>unfold maxLen;omega
    case c4=>omega
    case c5=>simp;omega
    intro L M d h A;obtain⟨i,g,z⟩:=Dp c HB p d h;go_wp2;go_roundw;exact⟨k+2,b++[s[k+1]],by omega,by omega,by simp;omega,by go_num,E,i,g,z⟩;simp[intOf];omega
   have B:=Z<|Gi j o q;have C:(((s[k].toNat:Nat):Int)==39)=false:=by simp;omega
   go_wp2_with (at_builtin;refine VS _ rfl (.tmp 29) (.tmp 33) 83 rfl (w.heap.size+1) 5 F _ 1 1 underlying83 hi r t x rfl (by decide) _ _ _ rfl (c.alloc _) ⟨wr.heap.size,0,none⟩ 1 1 [.int .u8 (s[k].toNat:Nat)] rfl rfl ?c1 ?c2 ?c3 ?c4 ?c5 ?_)
   case c1=>exact cW wr [.int .u8 (s[k].toNat:Nat)] 5
   case c2=>intro u A;simp at A;subst A;rfl
   case c3=>unfold maxLen;omega
   case c4=>omega
   case c5=>simp;omega
   intro D E d h z;obtain⟨i,g,y⟩:=Dp c HB p d h;go_wp2;go_roundw;exact⟨k+1,b++[s[k]],by omega,by omega,by simp;omega,by go_num,B,i,g,y⟩;simp[intOf];omega
  have q:=Z<|lu (l:=s.data.toList)<|IW j o;have d:=HB.o;have g:=bC d 0;have h:=bC d 1;have i:=bC d 2;have u:=bF d;simp at g h i;go_wp2_with refine VI (v:=.tuple #[iu,qI 0]) ?_ rfl ⟨by rw[q],?_⟩
  .simp[Zh,results147,go_sem,iu,n,g,h,i]
  exact eJ p _ _ _
