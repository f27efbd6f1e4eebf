import Derived.Test.YtojdpjpldokjmaaGreatDoorC09
import Derived.Test.YtojdpjpldokjmaaGreatDoorC08
set_option maxHeartbeats 0
set_option maxRecDepth 100000
set_option linter.all false
namespace Go.Proofs.YtojdpjpldokjmaaGreatDoor
open Go.Deep Go.RowKit Tryz
open Go renaming Value->Zb
open RowKit renaming Hid->Ze,intOf->Zk
variable{a:Int}{X:YX}{I:YW}{w:World}
def kC{m:Nat}:∀l:List YX,(∀x∈l,x.length<=m)->(dG [44,32] l).length<=l.length*(m+2)
 |[],_=>by simp[dG]
 |[x],h=>by have:=h x (by simp);simp[dG];omega
 |x::y::r,h=>by have c:=h x (by simp);have b:=kC (y::r) λz a=>h z (by simp at a ⊢;exact .inr a);simp only[dG,VH,Wk,WR,Xp]at b ⊢;omega
def Bq(b: -9223372036854775808<=a)(c:a<=9223372036854775807):(fj a).length<=24:=by
 unfold fj;split
 .decide
 split
 .have:=(tx (n:=(-a).toNat)<|by omega).2.2.2;simp only[Wk];omega
 have:=(tx (n:=a.toNat)<|by omega).2.2.2;omega
def mh{v:ai}(h:dv v):(aS v).length<=100:=by
 obtain⟨k,n,s⟩:=v;obtain⟨a,b,c⟩|⟨a,c,d,e⟩|⟨a,b,c⟩|⟨a,b,c⟩:=h
 .simp only at a;subst a;simp[aS]
 .simp only at a d e;subst a;have:=Bq d e;simp[aS];omega
 .simp only at a c;subst a;have:=xC s;simp[aS];omega
 simp only at a b;subst a;obtain rfl|rfl:=b<;>simp[aS]
def nU{c:YX×Int}(h:c.1.length<=10):(bM c).length<=100:=by have:=xS c.2;simp[bM];omega
def Kd:(prog.info? 9).map (λi=>(i.zero,i.size,i.bytes))=some (some<|.string ⟨#[]⟩,1,16):=by kernel_rfl
abbrev qV(x:YX):Zb:=qT x
def UW(w wr:World)(xs:List YX)(i:Nat)(v:Zb):Prop:=qB w wr/\wr.ownsRow w.heap.size 9 1 v i ((xs.take i).map qV)
def Hh(a b:List YX):(a++b).map qV=a.map qV++b.map qV:=by simp
def MN(x:YX):(({data:=#[40]}:Y9)++{data:=x.toArray})++{data:=#[41]}=⟨(40::(x++[41])).toArray⟩:=(Wd (·++_)<|jZ [40] x).trans<|jZ (40::x) [41]
def KE:∀u∈[qV X],u.oneCell'=true:=by intro u a;simp at a;subst a;rfl
def Pu(X:mH){v:Zb}(U:kM w)(L:br w w.heap.size 3 vC I v)(hn:I.length<=5)(q:∀x∈I,dv x):
 Calls prog 40 #[v,.func (.func 41) #[] #[]] w (qF (qT<|eD<|I.map aS) w):=by
 obtain⟨sa,sc,rfl⟩:=L.slice;obtain⟨i0,hi,D,E,F⟩:=V5 Kd;have S:=Z L;have O:=Z U;have J:=Z X;have Q:=Z q;have R:=Z<|kC (m:=100) (I.map aS) (λx Y=>by obtain⟨y,hy,rfl⟩:=VV.1 Y;exact mh<|q y hy);go_in;go_wp2
 go_loopw [5,10] (λs5 G wr=>∃(i:Nat),i<=I.length/\G=qI i/\Ze (UW w wr (I.map aS) i s5)) (λ_ a _=>I.length-(Zk a).toNat)
 exact⟨0,qO,rfl,qW,VP _ _ _ _⟩
 case round=>
  obtain⟨i,V,rfl,P⟩:=hrel;obtain⟨d,b⟩:=P.o;obtain⟨va,vn,vc,rfl⟩:=aF b;have A:=d.size;by_cases p:i<I.length
  .have r:I[i]?=some (I.getD i aE):=by simp[List.getD,VE p]
   have N:Ze<|((I.map aS).take<|i+1).map qV=((I.map aS).take i).map qV++[qV<|aS<|I.getD i aE]:=by unfold Ze;rw[V9,VO,r,Hh];rfl
   have W:=VY r;obtain⟨g,cap,T,C,e0,e1,e2⟩:=(S.aL λk hk=>d.block k hk).val p;cases T;generalize I.getD i aE=c at*;have H:=Z<|JO J c (wr.alloc<|.cells #[qI c.aC,qI c.n,qT c.s] 34) ((O.below d).below qA)<|Q c W;have C:g<wr.heap.size:=by omega
   have HB:=Z d;have z:=Z b;unfold vV at H;generalize aS c=x at*;generalize ((I.map aS).take i).map qV=ys at*;go_wp2_with fail;apply qR H;intro t n;have o:qB w t:=(HB.alloc HB.size _).trans<|n.mono (by simp;omega);have h:=aB n<|z.alloc<|.cells #[qI c.aC,qI c.n,qT c.s] 34;have l:=Z o;have M:w.heap.size<=t.heap.size:=o.size;go_wp2_with (at_builtin;refine VS _ rfl (.tmp 14) (.tmp 18) 47 rfl w.heap.size 9 i0 _ 1 16 underlying47 hi D E F rfl (by decide) _ _ _ rfl (h.alloc _) ⟨t.heap.size,0,none⟩ 1 1 [qV x] rfl rfl ?c1 ?c2 ?c3 ?c4 ?c5 ?_)
   case c1=>exact cW t [qV x] 9
   case c2=>exact KE
   case c3=>unfold maxLen;omega
   case c4=>omega
   case c5=>simp;omega
   intro v' w4 j B K;have u:Ze<|UW w w4 (I.map aS) (i+1) v':=by refine⟨a_ (l.alloc l.size _) B (λk hk=>(h.lt k hk).1) (by simp;omega),?_⟩;rw[N];exact j
   go_wp2;go_roundw;exact⟨i+1,by omega,by go_num,u⟩;simp[Zk];omega
  obtain rfl:i=I.length:=by omega
  have c:wr.ownsRow w.heap.size 9 1 (.slice va vn vc) (I.map aS).length<|(I.map aS).map qV:=by have e:(I.map aS).take I.length=I.map aS:=VX (by simp);rw[e]at b;rw[VL];exact b
  have k:=R.o;rw[VL]at k;have l:(dG [44,32]<|I.map aS).length<=1000:=by omega
  have h:=Z<|J.join _ _ _ wr c (by rw[VL];omega) (by omega);have j:Ze<|eD (I.map aS)=40::(dG [44,32] (I.map aS)++[41]):=rfl;have HB:=Z d;generalize dG [44,32] (I.map aS)=x at*;go_wp2_with fail;apply qR h;intro n g;go_wp2;go_ret;exact⟨i5<|j▸MN x,Z<|HB.trans<|g.mono A⟩
def Pt(X:mH){b:List (YX×Int)}{v:Zb}(V:kM w)(L:br w w.heap.size 2 OT b v)(hn:b.length<=5)(r:∀c∈b,(c.2=1\/c.2=2\/c.2=3)/\c.1.length<=10):
 Calls prog 38 #[v,.func (.func 39) #[] #[]] w (qF (qT<|eD<|b.map bM) w):=by
 obtain⟨sa,sc,rfl⟩:=L.slice;obtain⟨i0,hi,E,F,G⟩:=V5 Kd;have S:=Z L;have P:=Z V;have T:=Z X;have I:=Z r;have R:=Z<|kC (m:=100) (b.map bM) (λx Y=>by obtain⟨y,hy,rfl⟩:=VV.1 Y;exact nU (r y hy).2);go_in;go_wp2
 go_loopw [5,10] (λs5 H wr=>∃(i:Nat),i<=b.length/\H=qI i/\Ze (UW w wr (b.map bM) i s5)) (λ_ a _=>b.length-(Zk a).toNat)
 exact⟨0,qO,rfl,qW,VP _ _ _ _⟩
 case round=>
  obtain⟨i,W,rfl,Q⟩:=hrel;obtain⟨h,d⟩:=Q.o;obtain⟨va,vn,vc,rfl⟩:=aF d;have A:=h.size;by_cases D:i<b.length
  ·have n:b[i]?=some b[i]:=VE D;have O:Ze<|((b.map bM).take<|i+1).map qV=((b.map bM).take i).map qV++[qV<|bM b[i]]:=by
    unfold Ze;rw[V9,VO,n,Hh];rfl
   have J:=VY n;obtain⟨g,cap,U,C,e0,e1⟩:=(S.aL λk hk=>h.block k hk).d n;cases U;generalize b[i]=c at*;have N:=Z<|Fw c (wr.alloc<|.cells #[qT c.1,qI c.2] 97) ((P.below h).below qA) (I c J).2 (I c J).1;have C:g<wr.heap.size:=by omega
   have HB:=Z h;have z:=Z d;generalize bM c=x at*;generalize ((b.map bM).take i).map qV=ys at*;go_wp2_with fail;apply qR N;intro t p;have q:qB w t:=(HB.alloc HB.size _).trans<|p.mono (by simp;omega);have j:=aB p<|z.alloc<|.cells #[qT c.1,qI c.2] 97;have o:=Z q;have M:w.heap.size<=t.heap.size:=q.size;go_wp2_with (at_builtin;refine VS _ rfl (.tmp 14) (.tmp 18) 47 rfl w.heap.size 9 i0 _ 1 16 underlying47 hi E F G rfl (by decide) _ _ _ rfl (j.alloc _) ⟨t.heap.size,0,none⟩ 1 1 [qV x] rfl rfl ?c1 ?c2 ?c3 ?c4 ?c5 ?_)
   case c1=>exact cW t [qV x] 9
   case c2=>exact KE
   case c3=>unfold maxLen;omega
   case c4=>omega
   case c5=>simp;omega
   intro v' w4 l B K;have u:Ze<|UW w w4 (b.map bM) (i+1) v':=by refine⟨a_ (o.alloc o.size _) B (λk hk=>(j.lt k hk).1) (by simp;omega),?_⟩;rw[O];exact l
   go_wp2;go_roundw;exact⟨i+1,by omega,by go_num,u⟩;simp[Zk];omega
  obtain rfl:i=b.length:=by omega
  have g:wr.ownsRow w.heap.size 9 1 (.slice va vn vc) (b.map bM).length<|(b.map bM).map qV:=by have e:(b.map bM).take b.length=b.map bM:=VX (by simp);rw[e]at d;rw[VL];exact d
  have n:=R.o;rw[VL]at n;have o:(dG [44,32]<|b.map bM).length<=1000:=by omega
  have k:=Z<|T.join _ _ _ wr g (by rw[VL];omega) (by omega);have l:Ze<|eD (b.map bM)=40::(dG [44,32] (b.map bM)++[41]):=rfl;have HB:=Z h;generalize dG [44,32] (b.map bM)=x at*;go_wp2_with fail;apply qR k;intro p j;go_wp2;go_ret;exact⟨i5<|l▸MN x,Z<|HB.trans<|j.mono A⟩
