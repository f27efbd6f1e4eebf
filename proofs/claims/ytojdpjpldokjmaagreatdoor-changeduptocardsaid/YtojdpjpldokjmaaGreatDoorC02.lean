import Derived.Deep.RegionWith
import Derived.Deep.DeepFit
import Derived.Deep.DeepCutAuto
import Derived.Deep.LoopGhost
import Derived.Deep.Trees
import Derived.Test.YtojdpjpldokjmaaGreatDoorC01
set_option maxHeartbeats 0
set_option maxRecDepth 100000
set_option linter.all false
namespace Go.Proofs.YtojdpjpldokjmaaGreatDoor
open Go.Deep Go.RowKit Tryz
open Go renaming World->Za,Value->Zb,Calls->Zc,TypeId->Zf,results->Zh
open RowKit renaming Below->Zd,Hid->Ze,intOf->Zk
variable{i j k n:Nat}{W w x:World}{X Y:YX}{A u z:Value}{b:Bool}{D:YV}
def aH.cell(h:aH n w W)(b:k<w.heap.size)(a:k≠n):W.cell? ⟨k,i,none⟩=w.cell? ⟨k,i,none⟩:=
 VK (w:=w) (h.block k b a)
def iL(w:Za)(o:Obj)(a:n=w.heap.size):(w.alloc o).heap[n]?=some o:=by subst a;exact aM w o
def size_set(w:Za)(a:Addr)(v:Zb):(w.setCell a v).heap.size=w.heap.size:=by simp[Za.setCell]
def xu{e:Zf}{v:Zb}{c:Y0}(h:w.ownsRow i e j v n c):∀k,v.ownBlock=some k->∃a,w.heap[k]?=some (.cells a e (0,0)):=by
 intro k hk;obtain⟨rfl,_⟩|⟨g,cap,a,rfl,_,b,_⟩:=h.2
 .cases hk
 simp[Zb.ownBlock]at hk;subst hk;exact⟨a,b⟩
def aH.grown{b:Option Nat}(h:aH n w W)(a:W.grownBy x b)(d:∀k,b=some k->w.heap.size<=k):aH n w x:=
 ⟨a.os.trans h.os,a.tape.trans h.tape,a.output.trans h.output,Wf h.size a.size,λi hi c=>(a.block i (VT hi h.size) (λe=>by have:=d i e.symm;omega)).trans<|h.block i hi c⟩
def dM{e:Zf}{v:Zb}{c:Y0}(p:aH k w W)(t:k<i)(h:w.ownsRow i e j v n c):W.ownsRow i e j v n c:=by
 obtain⟨d,b⟩:=h;refine⟨d,?_⟩;obtain b|⟨g,cap,a,q,l,o,r⟩:=b
 .exact .inl b
 exact .inr ⟨g,cap,a,q,l,p.g (by omega) o,r⟩
def aF{e:Zf}{v:Zb}{d:Y0}(h:w.ownsRow k e i v n d):∃a m c,v=.slice a m c:=by
 obtain⟨rfl,_⟩|⟨g,cap,b,rfl,_⟩:=h.2
 .exact⟨_,_,_,rfl⟩
 exact⟨_,_,_,rfl⟩
def addr_add(n j:Nat):(⟨n,0,none⟩:Addr).add j=⟨n,j,none⟩:=by unfold Addr.add;split<;>simp_all
def cW(w:Za)(C:Y0)(t:Zf):∀j u,C[j]?=some u->(w.alloc<|.cells C.toArray t).cell? ((⟨w.heap.size,0,none⟩:Addr).add j)=some u:=by intro j u a;rw[addr_add,bC<|aM w _];simpa using a
def infoByte:(prog.info? 5).map (λi=>(i.zero,i.size,i.bytes))=some (some<|.int .u8 0,1,1):=by kernel_rfl
def byteCells(l:YX):Y0:=l.map λc=>Zb.int .u8 c.toNat
def bN{e:Zf}{v:Zb}{d:Y0}(h:w.ownsRow k e i v n d):∃a c,v=.slice a n c:=by
 obtain⟨rfl,rfl⟩|⟨g,cap,b,rfl,_⟩:=h.2
 .exact⟨none,0,rfl⟩
 exact⟨_,_,rfl⟩
def FE{a:Y8}(h:w.ownsRow k 5 1 (.slice a X.length j) X.length<|byteCells X):
 (convert 83 9<|.slice a X.length j).run prog w=.ok (qT X) w:=by
 obtain⟨e,l⟩|⟨g,cap,d,e,_,_⟩:=h.2
 .injection e with e1 e2 e3;subst e1;have:X=[]:=by simpa using l
  subst this;exact run_convert_bytes_nil (P:=prog) w 83 5 underlying83 underlying5 _ _ 9 underlying9
 .injection e with e1 e2 e3;subst e1
  have:=run_convert_bytes_arg (P:=prog) w 83 5 underlying83 underlying5 g 0 X.length j (X.map λj=>(j.toNat:Int)) (by simp) (by
   intro i hi;have c:=(h.cells (g:=g) rfl) i (.int .u8 X[i].toNat) (by unfold byteCells;simp[hi]);have b:(⟨g,0,none⟩:Addr).add i=⟨g,0+i,none⟩:=by unfold Addr.add;split<;>simp_all
   rw[b]at c;rw[c]
   simp[Wm,hi]) 9 underlying9
  rw[this];unfold strOfNums;rw[Ww,show X.map ((λn:Int=>UInt8.ofNat n.toNat) ∘ λj:UInt8=>(j.toNat:Int))=X from(Yb λj _=>by simp).trans (List.map_id X)]
def Ig{v:Zb}(k:Int)(g:X.length<=1048576)(b:w.ownsRow n 5 1 v X.length<|byteCells X):
 Zc prog 207 #[v,qI k] w (qF (if 40<X.length then .tuple #[iu,qI 0]else .tuple #[.agg #[qI 3,qI 0,qT X],qI k]) w):=by
 obtain⟨a,c,rfl⟩:=bN b;by_cases d:40<X.length
 .rw[VG d];go_in;go_wp2_with fail;refine VI (v:=.tuple #[iu,qI 0]) ?_ rfl ⟨rfl,qA⟩;simp[Zh,results207,go_sem,iu]
 .rw[VF d];have e:=FE<|b.alloc<|.cells #[qI 0,qI 0,.string ⟨#[]⟩] 180;go_in;go_wp2_with fail;refine VI (v:=.tuple #[.agg #[qI 3,qI 0,qT X],qI k]) ?_ rfl ⟨rfl,?_⟩
  .simp[Zh,results207,go_sem]
  exact qA
def sO(s:Y9)(k:Nat)(acc:YX):Prop:=bj [] (aq s 1)=bj acc (aq s k)
def Gi{s:Y9}(a:k<s.size)(h:sO s k X)(b:s[k].toNat≠39):sO s (k+1)<|X++[s[k]]:=by
 unfold sO at*;rw[h,cJ s k a];by_cases c:k+1<s.size
 .rw[cJ s (k+1) c,bj,VF b]
 rw[gK s (k+1)<|by omega];simp[bj,b]
def Ls{s:Y9}(a:k+1<s.size)(h:sO s k X)(b:s[k].toNat=39)(c:s[k+1].toNat=39):sO s (k+2)<|X++[s[k+1]]:=by unfold sO at*;rw[h,cJ s k<|by omega,cJ s (k+1) a,bj,VG b,VG c,Ax b,Ax c]
def Lr{s:Y9}(b:k<s.size)(h:sO s k X)(c:s[k].toNat=39)(a:¬k+1<s.size\/∃h:k+1<s.size,s[k+1].toNat≠39):
 bj [] (aq s 1)=(if 40<X.length then dF else ⟨3,0,X⟩,aq s<|k+1):=by
 unfold sO at h;rw[h,cJ s k b];obtain a|⟨d,a⟩:=a
 .rw[gK s (k+1)<|by omega,bj,VG c]
 .rw[cJ s (k+1) d,bj,VG c,VF a]
def IW{s:Y9}(a:¬k<s.size)(h:sO s k X):(bj []<|aq s 1).1.k=99:=by unfold sO at h;rw[h,gK s k<|by omega,bj];rfl
def Vl(s:Y9)(c:k<s.size)(b:s[k].toNat=39):List.isPrefixOf [39,39] (s.extract k s.size).data.toList=true↔∃h:k+1<s.size,s[k+1].toNat=39:=by
 have e:(s.extract k s.size).data.toList=aq s k:=by rw[nY,VX<|by simp];rfl
 rw[e,cJ s k c];by_cases a:k+1<s.size
 .rw[cJ s (k+1) a];simp only[List.isPrefixOf,X3,beq_iff_eq];constructor
  .rintro⟨_,h,_⟩;exact⟨a,by rw[<-h];rfl⟩
  rintro⟨_,h⟩;exact⟨(Ax b).symm,(Ax h).symm,trivial⟩
 rw[gK s (k+1)<|by omega];simp[List.isPrefixOf,a]
def Dp{wr:Za}{c:UInt8}{v:Zb}{C:Y_}{t:Zf}{X:Obj}(h:wr.ownsRow (w.heap.size+1) 5 1 v Y.length<|byteCells Y)(d:wr.heap[w.heap.size]?=some X)(j:qB w wr)
 (a:W.ownsRow (w.heap.size+1) 5 1 u (Y.length+1)<|byteCells Y++[.int .u8 (c.toNat:Nat)])(b:(wr.alloc<|.cells C t).grownBy W v.ownBlock):
 W.ownsRow (w.heap.size+1) 5 1 u (Y++[c]).length (byteCells<|Y++[c])/\Ze (W.heap[w.heap.size]?=some X)/\Ze (qB w W):=by
 have g:∀k,v.ownBlock=some k->w.heap.size+1<=k:=λk e=>(h.lt k e).1;have l:=lB d;refine⟨by unfold byteCells at*;simpa using a,?_,?_⟩
 .show W.heap[w.heap.size]?=some X;rw[b.block w.heap.size (by simp;omega) (λe=>by have:=g _ e.symm;omega)];exact bA d _
 .exact(j.alloc j.size _).trans ⟨b.os,b.tape,b.output,b.size,λi hi=>b.block i (by simp;omega) (λe=>by have:=g _ e.symm;omega)⟩
def Jk(X:lL)(s:Y9)(w:Za)(P:s.size<=1048576)(O:0<s.size):
 Zc prog 147 #[.string s] w λe K=>e=.returned (fZ (bj []<|aq s 1) s.data.toList)/\Zd w.heap.size w K:=by
 obtain⟨F,hi,r,t,x⟩:=V5 infoByte;go_in;go_wp2
 go_loopw [4,5] (λv a wr=>∃(k:Nat) (b:YX),1<=k/\k<=s.size/\b.length<=k/\a=qI k/\Ze (sO s k b)/\wr.ownsRow (w.heap.size+1) 5 1 v b.length (byteCells b)/\Ze (wr.heap[w.heap.size]?=some (.cells #[qI 0,qI 0,.string ⟨#[]⟩] 180))/\Ze (qB w wr)) (λ_ a _=>s.size-(Zk a).toNat)
 exact⟨1,[],by omega,by omega,by simp,rfl,rfl,VP _ _ _ _,aM _ _,qA⟩
 case round=>
  obtain⟨k,b,hk,J,H,rfl,o,c,HB,p⟩:=hrel;obtain⟨Q,R,rfl⟩:=bN c;have n:w.heap.size<wr.heap.size:=lB HB;by_cases j:k<s.size
  .by_cases q:s[k].toNat=39
   .have D:=Z<|Vl s j q;have y:Ze (∀w,Zc prog 206 #[.string<|s.extract k s.size,.string ⟨#[39,39]⟩] w<|qE (.bool<|List.isPrefixOf [39,39] (s.extract k s.size).data.toList) w):=λw=>(Z X.pre) _ _ w;have I:(((s[k].toNat:Nat):Int)==39)=true:=by simp;omega
    cases hp:List.isPrefixOf [39,39] (s.extract k s.size).data.toList
    ·have C:=Z (Lr j o q (by
      by_cases B:k+1<s.size
      .exact .inr ⟨B,λh=>by rw[D.2 ⟨B,h⟩]at hp;cases hp⟩
      .exact .inl B))
     have d:=Z λL (h:wr=L)=>h▸Ig ((k:Int)+1) (by omega) c;have i:=HB.o;have u:=bC i 0;have z:=bC i 1;have A:=bC i 2;have M:=bF i;simp at u z A;by_cases g:40<b.length
     .rw[VG g]at d;have G:Ze<|fZ (bj []<|aq s 1) s.data.toList=.tuple #[iu,.int .i64 0]:=lu (by rw[C,VG g];rfl);go_wp2_with fail;apply qS<|y _;rw[hp];go_wp2_with fail;apply qR<|d _ rfl;intro S E;obtain⟨c1,N⟩:=dN E;unfold iu;go_wp2_with fail;refine VI (v:=.tuple #[iu,qI 0]) ?_ rfl ⟨by rw[G],?_⟩
      .simp[Zh,results147,go_sem,iu,c1,n,u,z,A]
      exact eJ (p.trans<|E.mono<|by omega) _ _ _
     rw[VF g]at d;have G:Ze<|fZ (bj []<|aq s 1) s.data.toList=.tuple #[.agg #[.int .i64 3,.int .i64 0,.string ⟨b.toArray⟩],.int .i64<|(k:Int)+1]:=by unfold Ze;rw[C,VF g,ml (by show(3:Nat)≠99;decide),kg];simp only;rw[show(s.data.toList.length-(aq s<|k+1).length:Nat)=k+1 by unfold aq;simp;omega];rfl
     go_wp2_with fail;apply qS<|y _;rw[hp];go_wp2_with fail;apply qR<|d _ rfl;intro S E;obtain⟨c1,N⟩:=dN E;go_wp2_with fail;refine VI (v:=.tuple #[.agg #[qI 3,qI 0,qT b],qI<|(k:Int)+1]) ?_ rfl ⟨by rw[G],?_⟩
     .simp[Zh,results147,go_sem,c1,n,u,z,A]
     exact eJ (p.trans<|E.mono<|by omega) _ _ _
    obtain⟨G,hd⟩:=D.1 hp;have E:=Z<|Ls G o q hd;clear q o hd;go_wp2_with apply(y _).mono;rintro e C⟨rfl,rfl⟩;rw[hp];go_wp2_with (at_builtin;refine VS _ rfl (.tmp 29) (.tmp 33) 83 rfl (w.heap.size+1) 5 F _ 1 1 underlying83 hi r t x rfl (by decide) _ _ _ rfl (c.alloc _) ⟨C.heap.size,0,none⟩ 1 1 [.int .u8 (s[k+1].toNat:Nat)] rfl rfl ?c1 ?c2 ?c3 ?c4 ?c5 ?_)
    case c1=>exact cW C [.int .u8 (s[k+1].toNat:Nat)] 5
    case c2=>intro u B;simp at B;subst B;rfl
    case c3=>unfold maxLen;omega
    case c4=>omega
    case c5=>simp;omega
    intro L M d h A;obtain⟨i,g,z⟩:=Dp c HB p d h;go_wp2;go_roundw;exact⟨k+2,b++[s[k+1]],by omega,by omega,by simp;omega,by go_num,E,i,g,z⟩;simp[Zk];omega
   have B:=Z<|Gi j o q;have C:(((s[k].toNat:Nat):Int)==39)=false:=by simp;omega
   go_wp2_with (at_builtin;refine VS _ rfl (.tmp 29) (.tmp 33) 83 rfl (w.heap.size+1) 5 F _ 1 1 underlying83 hi r t x rfl (by decide) _ _ _ rfl (c.alloc _) ⟨wr.heap.size,0,none⟩ 1 1 [.int .u8 (s[k].toNat:Nat)] rfl rfl ?c1 ?c2 ?c3 ?c4 ?c5 ?_)
   case c1=>exact cW wr [.int .u8 (s[k].toNat:Nat)] 5
   case c2=>intro u A;simp at A;subst A;rfl
   case c3=>unfold maxLen;omega
   case c4=>omega
   case c5=>simp;omega
   intro D E d h z;obtain⟨i,g,y⟩:=Dp c HB p d h;go_wp2;go_roundw;exact⟨k+1,b++[s[k]],by omega,by omega,by simp;omega,by go_num,B,i,g,y⟩;simp[Zk];omega
  have q:=Z<|lu (l:=s.data.toList)<|IW j o;have d:=HB.o;have g:=bC d 0;have h:=bC d 1;have i:=bC d 2;have u:=bF d;simp at g h i;go_wp2_with fail;refine VI (v:=.tuple #[iu,qI 0]) ?_ rfl ⟨by rw[q],?_⟩
  .simp[Zh,results147,go_sem,iu,n,g,h,i]
  exact eJ p _ _ _
def RS(w:Za)(rb:Nat)(s:Y9)(p d:Nat)(b:Bool):Prop:=
 w.heap[rb]?=some (.cells #[.string s,qI p,qI d,.bool b] 148)
def RS.c{s:Y9}(h:RS w n s k i b):
 w.cell? ⟨n,0,none⟩=some (.string s)/\w.cell? ⟨n,1,none⟩=some (qI k)/\w.cell? ⟨n,2,none⟩=some (qI i)/\w.cell? ⟨n,3,none⟩=some (.bool b)/\(∀o,w.frozen? ⟨n,o,none⟩=false):=
 ⟨bC h 0,bC h 1,bC h 2,bC h 3,bF h⟩
def vg(t:ae)(str:Y9)(b:Bool):Bool:=!b&&((bG t).toList==str.toList)&&(cA t.k==107||cA t.k==115)
def ug(l:YX)(str:Y9)(b:Bool):YX:=if vg (aO l).1 str b=true then (aO l).2 else l
def tE(w wx:Za)(tb:Nat)(t:ae):Prop:=
 w.heap.size<=tb/\wx.heap[tb]?=some (.cells #[.int .u8<|cA t.k,.string<|bG t,qI<|gj t] 151)/\qB w wx
def yl{t:ae}(b:Zd w.drew.heap.size w.drew W):
 tE w (W.alloc<|.cells #[.int .u8<|cA t.k,.string<|bG t,qI<|gj t] 151) W.heap.size t:=by
 have a:qB w W:=qW.drew.trans b;exact⟨a.size,aM _ _,a.alloc a.size _⟩
def vA(t:ae)(b:Zd ((w.alloc<|.cells #[u,A,z] 151).drew).heap.size ((w.alloc<|.cells #[u,A,z] 151).drew) W):
 tE w (((W.setCell ⟨w.heap.size,0,none⟩<|.int .u8<|cA t.k).setCell ⟨w.heap.size,1,none⟩<|.string<|bG t).setCell ⟨w.heap.size,2,none⟩<|qI<|gj t) w.heap.size t:=by
 have c:W.heap[w.heap.size]?=some (.cells #[u,A,z] 151):=bB b (by simp[Za.drew])<|aM w _;have a:qB w W:=(qA.drew).trans<|b.mono (by simp[Za.drew]);refine⟨qZ,?_,eJ a _ _ _⟩;have:=bS (bS (bS c 0<|.int .u8<|cA t.k) 1<|.string<|bG t) 2<|qI<|gj t;simpa using this
def Nm{s:Y9}(b:Bool){a:Y9}(r:RS w n s k i b)(D:k<=s.size)(O:s.size<=1048576):
 Zc prog 76 #[qP n,.string a] w λe F=>∃q:Nat,e=.returned (.bool<|vg (aO<|aq s k).1 a b)/\RS F n s q i b/\k<=q/\q<=s.size /\
  aq s q=ug (aq s k) a b/\aH n w F:=by
 obtain⟨Y,Z,g2,g3,gf⟩:=r.c;have z:n<w.heap.size:=lB r;have I:Ze<|RS w n s k i b:=r;go_in;go_upto_region 1 with fail
 go_cut [5,6] (λR S V=>∃p q:Nat,R=qP p/\S=qI q/\k<=q/\q<=s.size/\Ze (aq s q=(aO<|aq s k).2)/\tE w V p (aO<|aq s k).1)
 case first=>
  go_region_with (go_at_call 77;apply(xi s D O).mono;rintro e l⟨q,rfl,d,g,j,c⟩;have h:Ze<|aq s q=(aO<|aq s k).2:=j;clear j;obtain⟨c1,j⟩:=dN c;have o:=c.size;rw[fr])
  all_goals
   go_wp2;go_meet
   first|exact⟨_,q,rfl,rfl,d,g,h,yl c⟩|exact⟨_,q,rfl,rfl,d,g,h,vA _ c⟩
 case rest=>
  obtain⟨p,q,rfl,rfl,u,y,H,P,j,g⟩:=hcut;have o:RS wc n s k i b:=bB g z I;obtain⟨r0,r1,r2,r3,rf⟩:=o.c;have l:Ze<|RS wc n s k i b:=o;have T:=bC j 0;have U:=bC j 1;have N:¬p=n:=by omega
  have E:aH n w wc:=(aH.refl _ _).below g;generalize J:(aO<|aq s k).1=t at*;have d:Ze<|(aO<|aq s k).1=t:=J;have c:Ze<|vg t a b=(!b&&((bG t).toList==a.toList)&&(cA t.k==107||cA t.k==115)):=rfl;generalize cA t.k=K at*;generalize bG t=B at*;simp at T U;have A:vg t a b=true->aq s q=ug (aq s k) a b:=λh=>by rw[ug,d,h,VG rfl,H]
  have no:vg t a b=false->aq s k=ug (aq s k) a b:=λh=>by rw[ug,d,h];rfl
  have M:Ze<|vg t a b=true->aq s q=ug (aq s k) a b:=A;have G:Ze<|vg t a b=false->aq s k=ug (aq s k) a b:=no;have last (x:Bool) (Q:x=false):Ze (vg t a b=x)->Ze (Ending.returned (.bool false)=.returned (.bool<|vg (aO<|aq s k).1 a b)/\RS wc n s k i b/\k<=k/\k<=s.size/\aq s k=ug (aq s k) a b/\aH n w wc):=λh=>by subst Q;exact⟨by rw[d,h],l,qZ,D,G h,E⟩
  cases b
  .cases e1:(B.toList==a.toList)
   .have L:=last _ rfl (by rw[c,e1];rfl);go_wp2;go_ret;exact⟨k,L⟩
   cases e2:(K==107)<;>cases e3:(K==115)
   .have L:=last _ rfl (by rw[c,e1,e2,e3];rfl);have W:(K != 107)=true:=by simp at e2 ⊢;exact e2
    have X:(K != 115)=true:=by simp at e3 ⊢;exact e3
    go_wp2;go_ret;exact⟨k,L⟩
   all_goals
    have C:Ze<|vg t a false=true:=by show vg t a false=true;rw[c,e1,e2,e3];rfl
    have L:Ze<|Ending.returned (.bool true)=.returned (.bool<|vg (aO<|aq s k).1 a false)/\RS (wc.setCell ⟨n,1,none⟩<|qI q) n s q i false/\k<=q/\q<=s.size/\aq s q=ug (aq s k) a false/\aH n w (wc.setCell ⟨n,1,none⟩<|qI q):=
     ⟨by rw[d,C],bS l 1 _,u,y,M C,E.set _ _⟩
   .have W:(K != 107)=true:=by simp at e2 ⊢;exact e2
    have X:(K != 115)=false:=by simp at e3 ⊢;exact e3
    go_wp2;go_ret;exact⟨q,L⟩
   .have W:(K != 107)=false:=by simp at e2 ⊢;exact e2
    go_wp2;go_ret;exact⟨q,L⟩
   .exfalso;simp at e2 e3;omega
  have L:=last _ rfl (by rw[c];rfl);go_wp2;go_ret;exact⟨k,L⟩
def RT(w:Za)(rb:Nat)(s:Y9)(ts:YV)(d:Nat)(b:Bool):Prop:=
 ∃p:Nat,p<=s.size/\s.size<=1048576/\RS w rb s p d b/\de (aq s p)=ts
def RT.lt{s:Y9}(h:RT w n s D k b):n<w.heap.size:=by obtain⟨p,_,_,h,_⟩:=h;exact lB h
def RT.g{s:Y9}(h:RT w n s D k b)(g:W.heap[n]?=w.heap[n]?):RT W n s D k b:=by obtain⟨p,a,c,d,e⟩:=h;exact⟨p,a,c,by unfold RS at*;rw[g,d],e⟩
def dh(ts:YV)(k:Nat)(b:Bool):Bool:=!b&&(af ts).k==k
def ff(ts:YV)(k:Nat)(b:Bool):YV:=if dh ts k b=true then ts.tail else ts
def Kw(k:Nat):(cA k==107||cA k==115)=true↔4<=k/\k<51:=by
 unfold cA;by_cases a:k=0
 .subst a;decide
 by_cases b:k=1
 .subst b;decide
 by_cases c:k=2
 .subst c;decide
 by_cases d:k=3
 .subst d;decide
 rw[VF a,VF b,VF c,VF d];by_cases e:k<20
 .rw[VG e];simp<;>omega
 rw[VF e];by_cases g:k<51
 .rw[VG g];simp<;>omega
 rw[VF g];simp<;>omega
def CY(l:YX):(⟨l.toArray⟩:Y9).toList=l:=by rw[ByteArray.toList_eq]
def Nl{t:ae}(g:4<=k)(a:k<51)(b:Bool):vg t ⟨(bt k).toArray⟩ b=(!b&&t.k==k):=by
 unfold vg;cases b with
 |true=>rfl
 |false=>
  simp only[Bool.not_false,X5];by_cases h:4<=t.k/\t.k<51
  ·rw [(Kw t.k).2 h];have hs:bG t=⟨(bt t.k).toArray⟩:=by
    rw[bG,gT,VF<|by omega]
   rw[hs,CY,CY,Bool.and_true];by_cases e:t.k=k
   .rw[e];simp
   have:bt t.k≠bt k:=λc=>e<|EE h.1 h.2 g a c;rw[XQ.2 this,XQ.2 e]
  have c:(cA t.k==107||cA t.k==115)=false:=by rw[Xm];intro d;exact h<|(Kw t.k).1 d
  rw[c,Bool.and_false];have:t.k≠k:=by omega
  simp[this]
def jd(k:Nat)(u:4<=k)(g:k<51){s:Y9}(b:Bool)(d:Y9)(c:d=⟨(bt k).toArray⟩)(t:RT w n s D i b):
 Zc prog 76 #[qP n,.string d] w λe o=>e=.returned (.bool<|dh D k b)/\RT o n s (ff D k b) i b/\aH n w o:=by
 obtain⟨p,x,hs,z,rfl⟩:=t;subst c;apply(Nm b z x hs).mono;rintro e o⟨q,rfl,l,y,j,a,h⟩;have r:vg (aO<|aq s p).1 ⟨(bt k).toArray⟩ b=dh (de<|aq s p) k b:=by rw[Nl u g];rw[dh,ll]
 refine⟨by rw[r],⟨q,j,hs,l,?_⟩,h⟩;unfold ug at a;unfold ff;rw[r]at a;cases hx:dh (de<|aq s p) k b
 .rw[hx]at a;rw[a];rfl
 .rw[hx]at a;simp only[if_true]at a ⊢;rw[a];unfold dh at hx;rw[ll]at hx;simp at hx;rw[qX (by omega)<|by omega]
def mU(k:Nat)(r:4<=k)(g:k<51){s:Y9}(b:Bool)(a:Y9)(c:Ze<|a=⟨(bt k).toArray⟩)(o:RT w n s D i b):
 Zc prog 121 #[qP n,.string a] w λe l=>e=.returned (.tuple #[])/\RT l n s (ff D k b) i (!dh D k b)/\aH n w l:=by
 have j:=Z<|jd k r g b a c o;have q:dh D k b=true->b=false:=by cases b<;>simp[dh]
 cases hx:dh D k b
 .go_in;go_wp2_with fail;apply qR j;rintro B⟨⟨p,t,hs,h,u⟩,d⟩;obtain⟨x,y,z,A,rf⟩:=h.c;rw[hx];go_wp2
  go_end0
  exact⟨rfl,⟨p,t,hs,bS h 3 _,u⟩,d.set _ _⟩
 .have d:=q hx;subst d;go_in;go_wp2_with fail;apply qR j;rintro t⟨p,h⟩;rw[hx];go_wp2
  go_end0
  exact⟨rfl,p,h⟩
def yk(h:aH n w W):aH n w<|((W.setCell ⟨w.heap.size,0,none⟩ u).setCell ⟨w.heap.size,1,none⟩ z).setCell ⟨w.heap.size,2,none⟩ A:=
 ((h.l qZ _).l qZ _).l qZ _
def Jo{s:Y9}(a:n≠w.heap.size)(h:RS W n s k i b):
 RS (((W.setCell ⟨w.heap.size,0,none⟩ u).setCell ⟨w.heap.size,1,none⟩ A).setCell ⟨w.heap.size,2,none⟩ z) n s k i b:=
 bY (bY (bY h a _ _) a _ _) a _ _
def Pd(t:ae)(c:Int)(b:Bool):Bool:=b||cA t.k != c
def LG(l:YX)(c:Int)(b:Bool):YX:=if Pd (aO l).1 c b=true then l else (aO l).2
def Gf{t:ae}(b:n=w.heap.size)(a:Zd ((w.alloc<|.cells #[u,A,z] 151).drew).heap.size ((w.alloc<|.cells #[u,A,z] 151).drew) W):
 tE w (((W.setCell ⟨n,0,none⟩<|.int .u8<|cA t.k).setCell ⟨n,1,none⟩<|.string<|bG t).setCell ⟨n,2,none⟩<|qI<|gj t) n t:=by
 subst b;exact vA t a
def Sy{s:Y9}(b:Bool)(c:Int)(y:RS w n s k i b)(A:k<=s.size)(T:s.size<=1048576):
 Zc prog 183 #[qP n,.int .u8 c] w λe L=>∃q:Nat,e=.returned (cU (aO<|aq s k).1)/\RS L n s q i (Pd (aO<|aq s k).1 c b)/\q<=s.size /\
  aq s q=LG (aq s k) c b/\aH n w L:=by
 have S:n<w.heap.size:=lB y;have z:RS (w.alloc<|.cells #[.int .u8 0,.string {data:=#[]},qI 0] 151) n s k i b:=bA y _;obtain⟨g0,g1,g2,g3,gf⟩:=y.c;have P:Ze<|RS (w.alloc<|.cells #[.int .u8 0,.string {data:=#[]},qI 0] 151) n s k i b:=z;go_in;go_upto_region 1 with fail
 go_cut [5,6] (λU V wx=>∃o q:Nat,U=qP o/\V=qI q/\k<=q/\q<=s.size/\Ze (aq s q=(aO<|aq s k).2)/\tE (w.alloc<|.cells #[.int .u8 0,.string {data:=#[]},qI 0] 151) wx o (aO<|aq s k).1)
 case first=>
  go_region_with (go_at_call 77;apply(xi s A T).mono;rintro e l⟨q,rfl,d,g,j,a⟩;have h:Ze<|aq s q=(aO<|aq s k).2:=j;clear j;obtain⟨c1,j⟩:=dN a;have p:=a.size;rw[fr])
  all_goals
   go_wp2;go_meet
   first|exact⟨_,q,rfl,rfl,d,g,h,yl a⟩|exact⟨_,q,rfl,rfl,d,g,h,Gf (by simp) a⟩
 case rest=>
  obtain⟨o,q,rfl,rfl,R,C,O,D,g,d⟩:=hcut;have z0:w.heap.size<o:=by simp at D;omega
  have p:RS wc n s k i b:=bB d (by simp;omega) P;have j:wc.heap[w.heap.size]?=some (.cells #[.int .u8 0,.string {data:=#[]},qI 0] 151):=bB d (by simp)<|aM w _;obtain⟨r0,r1,r2,r3,rf⟩:=p.c;have l:Ze<|RS wc n s k i b:=p;have W:=bC g 0;have X:=bC g 1;have Y:=bC g 2;have r:=bC j 0;have t:=bC j 1;have u:=bC j 2;have xf:=bF j;have⟨Q,J,a⟩:¬o=n/\¬o=w.heap.size/\¬n=w.heap.size:=by omega
  have E:aH n w wc:=((aH.refl n w).alloc _).below d;have x:Ze<|cU (aO<|aq s k).1=.agg #[.int .u8<|cA (aO<|aq s k).1.k,.string<|bG (aO<|aq s k).1,qI<|gj (aO<|aq s k).1]:=rfl;have HB:Ze<|Pd (aO<|aq s k).1 c b=(b||cA (aO<|aq s k).1.k != c):=rfl;have F:Pd (aO<|aq s k).1 c b=true->aq s k=LG (aq s k) c b:=λh=>by rw[LG,h,VG rfl]
  have no:Pd (aO<|aq s k).1 c b=false->aq s q=LG (aq s k) c b:=λh=>by rw[LG,h,O];rfl
  have H:=Z F;have M:=Z no;generalize cA (aO<|aq s k).1.k=K at*;generalize bG (aO<|aq s k).1=B at*;generalize gj (aO<|aq s k).1=N at*;simp at W X Y r t u;cases e1:(K != c)
  .cases b
   .have I:=HB.o;rw[e1]at I;have G:Ze<|Pd (aO<|aq s k).1 c false=false:=I;go_wp2_with fail;refine VI (v:=.agg #[.int .u8 K,.string B,qI N]) ?_ rfl ⟨q,by rw[x],by rw[G];exact Jo (Ne.intro a)<|bS l 1 _,C,M G,yk<|E.set _ _⟩;simp[Zh,results183,go_sem,r,t,u,a]
   have G:Ze<|Pd (aO<|aq s k).1 c true=true:=by rw[HB];rfl
   go_wp2_with fail;refine VI (v:=.agg #[.int .u8 K,.string B,qI N]) ?_ rfl ⟨k,by rw[x],by rw[G];exact Jo (Ne.intro a) l,A,H G,yk E⟩;simp[Zh,results183,go_sem,r,t,u]
  have I:=HB.o;rw[e1,Bool.or_true]at I;have G:Ze<|Pd (aO<|aq s k).1 c b=true:=I;go_wp2_with fail;refine VI (v:=.agg #[.int .u8 K,.string B,qI N]) ?_ rfl ⟨k,by rw[x],by rw[G];exact Jo (Ne.intro a)<|bS l 3 _,A,H G,yk<|E.set _ _⟩;simp[Zh,results183,go_sem,r,t,u,a]
def SI(k:Nat):(cA k != 119)=!(k==1):=by
 unfold cA;repeat' split
 all_goals (simp;try omega)
def Ot(k:Nat):(cA k != 110)=!(k==2):=by
 unfold cA;repeat' split
 all_goals (simp;try omega)
def P_{t:ae}(h:af D=t)(a:Nat)(c:Int)(d:(a=1/\c=119)\/(a=2/\c=110))(b:Bool):Pd t c b=!dh D a b:=by
 unfold Pd dh;rw[h];obtain⟨rfl,rfl⟩|⟨rfl,rfl⟩:=d
 .rw[SI];cases b<;>simp
 rw[Ot];cases b<;>simp
def Vg(d:Nat)(c:Int)(r:(d=1/\c=119)\/(d=2/\c=110)){s:Y9}(b:Bool)(o:RT w n s D k b):
 Zc prog 183 #[qP n,.int .u8 c] w λe j=>e=.returned (cU<|af D)/\RT j n s (ff D d b) k (!dh D d b)/\aH n w j:=by
 obtain⟨p,t,hs,u,rfl⟩:=o;apply(Sy b c u t hs).mono;rintro e j⟨q,rfl,g,i,a,h⟩;have l:=P_ (ll<|aq s p) d c r b;rw[l]at g;refine⟨by rw[ll],⟨q,i,hs,g,?_⟩,h⟩;unfold LG at a;unfold ff;rw[l]at a;cases hx:dh (de<|aq s p) d b
 .rw[hx]at a;rw[a];rfl
 .rw[hx]at a;simp only[if_true]at a ⊢;rw[a];unfold dh at hx;rw[ll]at hx;simp at hx;rw[<-qX (by omega) (by omega)];rfl
def uB{s:Y9}(b:Bool)(g:RT w n s D k b):
 Zc prog 122 #[qP n] w λe d=>e=.returned (.string<|bG<|af D)/\RT d n s (ff D 1 b) k (!dh D 1 b)/\aH n w d:=by
 go_in;go_wp2_with fail;apply qR<|Z<|Vg 1 119 (.inl ⟨rfl,rfl⟩) b g;rintro h⟨c,a⟩;rw[fr];go_wp2;go_ret;exact⟨rfl,c.g<|by rw[V2 _ _ _ c.lt],a.alloc _⟩
def xj{s:Y9}(b:Bool)(i:RT w n s D k b):
 Zc prog 184 #[qP n] w λe h=>e=.returned (.bool<|dh D 9 b)/\RT h n s (ff D 9 b) k b/\aH n w h:=by
 have g:=Z<|jd 9 (by decide) (by decide) b {data:=#[44]} rfl i;have j:dh D 9 b=true->b=false:=by cases b<;>simp[dh]
 cases hx:dh D 9 b
 .go_in;go_wp2_with fail;apply qR g;rintro d⟨c,a⟩;rw[hx];go_wp2;go_ret;exact⟨rfl,c,a⟩
 .have c:=j hx;subst c;go_in;go_wp2_with fail;apply qR g;rintro y⟨o,d⟩;rw[hx];obtain⟨p,l,hs,a,q⟩:=o;obtain⟨r,t,u,x,rf⟩:=a.c;go_wp2;go_ret;exact⟨rfl,⟨p,l,hs,a,q⟩,d⟩
def EW(d:Nat)(b:Bool):Bool:=b||decide (20<=d)
def DZ{s:Y9}(q:k<=1000)(b:Bool)(l:RT w n s D k b):
 Zc prog 307 #[qP n] w λe j=>e=.returned (.bool<|!EW k b)/\RT j n s D (k+1) (EW k b)/\aH n w j:=by
 obtain⟨p,h,hs,i,o⟩:=l;have g:Ze<|de (aq s p)=D:=o;obtain⟨r,t,u,x,rf⟩:=i.c;have d:Ze<|RS w n s p k b:=i;by_cases a:20<=k
 .have c:Ze<|EW k b=true:=by simp[EW,a,Ze]
  go_in;go_wp2;go_ret;exact⟨by rw[c];rfl,⟨p,h,hs,by rw[c];exact bS (bS d 2 _) 3 _,g⟩,((aH.refl _ _).set _ _).set _ _⟩
 .have c:Ze<|EW k b=b:=by simp[EW,a,Ze]
  go_in;go_wp2;go_ret;exact⟨by rw[c];rfl,⟨p,h,hs,by rw[c];exact bS d 2 _,g⟩,(aH.refl _ _).set _ _⟩
def gL(ts:YV)(b:Bool):Y4->Int->Int
 |[],_=>-1
 |k::ks,i=>if dh ts k b=true then i else gL ts b ks (i+1)
def eQ(ts:YV)(b:Bool):Y4->YV
 |[]=>ts
 |k::ks=>if dh ts k b=true then ts.tail else eQ ts b ks
def jX(w:Za)(lb:Nat)(ks:Y4):Prop:=lb<w.heap.size/\(∀i (h:i<ks.length),w.cell? ⟨lb,i,none⟩=some (qT<|bt ks[i]))/\∀k,k∈ks->4<=k/\k<51
def A3:∀(ks:Y4)(i:Nat)(j:Int),i<=ks.length->(∀m (h:m<ks.length),m<i->dh D ks[m] b=false)->gL D b ks j=gL D b (ks.drop i) (j+i)/\eQ D b ks=eQ D b (ks.drop i)
 |ks,0,j,_,_=>by simp
 |[],i+1,j,h,_=>by simp at h
 |k::ks,i+1,j,h,hno=>by
  have a:=hno 0 (by simp) (by omega);simp only[List.getElem_cons_zero]at a;have:=A3 ks i (j+1) (by simpa using h) (λm d c=>by have:=hno (m+1) (by simp;omega) (by omega);simpa using this);rw[X_];constructor
  .rw[gL,a,VF<|by simp,this.1];congr 1;omega
  rw[eQ,a,VF<|by simp,this.2]
def firstT{c:Y4}(F:Nat){s:Y9}(b:Bool)(I:RT w k s D j b)(H:jX w n c)(x:n≠k)(M:c.length<=100):
 Zc prog 120 #[.pointer<|some ⟨k,0,none⟩,.slice (some ⟨n,0,none⟩) c.length F] w λe C=>e=.returned (.int .i64<|gL D b c 0)/\RT C k s (eQ D b c) j b/\aH k w C:=by
 have E:=Z I;have p:=Z H;go_in;go_wp2
 go_loopw [5] (λa wr=>∃i:Nat,i<=c.length/\a=.int .i64 i/\Ze (∀m (h:m<c.length),m<i->dh D c[m] b=false)/\Ze (RT wr k s D j b)/\Ze (aH k w wr)) (λa _=>c.length-(Zk a).toNat)
 exact⟨0,Wi _,rfl,λm _ h=>by omega,E,aH.refl _ _⟩
 case round=>
  obtain⟨i,hi,rfl,q,A,g⟩:=hrel;by_cases d:i<c.length
  .have L:wr.cell? ⟨n,i,none⟩=some (.string ⟨(bt c[i]).toArray⟩):=by rw[g.cell p.1 x];exact p.2.1 i d
   have hk:=p.2.2 c[i]<|VQ d;have z:=Z<|jd c[i] hk.1 hk.2 b _ rfl A;have l:=Z<|A3 c i 0 hi q;rw[VJ d]at l;generalize u:c[i]=y at*;have o:=Z u;cases hx:dh D y b
   .have G:Ze<|ff D y b=D:=by unfold ff;rw[hx];rfl
    go_wp2_with fail;refine z.mono ?_;rintro e N⟨rfl,B,t⟩;rw[hx];rw[G]at B;have r:=Z B;go_wp2;go_roundw
    case rel=>exact ⟨i+1,by omega,by go_num,λm J K=>by
     by_cases e:m=i
     .subst e;rw[o];exact hx
     .exact q m J<|by omega,r,g.trans t⟩
    simp[Zk];omega
   go_wp2_with fail;refine z.mono ?_;rintro e J⟨rfl,G,t⟩;rw[hx];have r:=Z G;have B:Ze<|gL D b c 0=(i:Int)/\eQ D b c=ff D y b:=by
    constructor
    .rw[l.1,gL,hx,VG rfl];omega
    rw[l.2,eQ,hx,VG rfl];unfold ff;rw[hx,VG rfl]
   go_wp2;go_ret;exact⟨fQ B.1.symm,by rw[B.2];exact r,g.trans t⟩
  have l:=A3 c i 0 hi q;rw[Wo<|by omega]at l;have o:Ze<|gL D b c 0=-1/\eQ D b c=D:=⟨by rw[l.1,gL],by rw[l.2,eQ]⟩;go_wp2;go_ret;exact⟨fQ o.1.symm,by rw[o.2];exact A,g⟩
