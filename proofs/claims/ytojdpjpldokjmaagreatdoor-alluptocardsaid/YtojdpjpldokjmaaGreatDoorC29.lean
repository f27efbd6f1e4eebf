import Derived.Lib.AppendIntMem
import Derived.Lib.ItoaLen
import Derived.Lib.OthersKept
import Derived.Maps.Own
import Derived.Maps.OwnOps
import Derived.Maps.Views
import Derived.Test.YtojdpjpldokjmaaGreatDoorC09
import Derived.Test.YtojdpjpldokjmaaGreatDoorC10
set_option maxHeartbeats 0
set_option maxRecDepth 100000
set_option linter.all false
namespace Go.Proofs.YtojdpjpldokjmaaGreatDoor
open Go.Deep Go.Maps Go.RowKit Go.WideMaps Tryz
open Go renaming World->Za,Value->Zb,Calls->Zc,maxLen->Zj
open RowKit renaming Hid->Ze,intOf->Zk
variable{i j k n:Nat}{X:YX}{M a:Int}{W w x:World}{u:Value}{I J:YW}{N O:List YW}{o p:YZ}
def uY(u:Nat):∀b:UInt8,b∈Lib.decDigits u->48<=b.toNat/\b.toNat<=57:=by
 induction u using Nat.strongRecOn with
 |_ u ih=>
  intro b h;rw[Lib.decDigits]at h;split at h
  .simp at h;subst h;simp[XD];omega
  rename_i a;obtain h|h:=V1.1 h
  .exact ih (u / 10) (by omega) b h
  simp at h;subst h;simp[XD];omega
def z6(l:YX):Nat:=l.foldl (λa b=>a*10+(b.toNat-48)) 0
def AE(u:Nat):z6 (Lib.decDigits u)=u:=by
 induction u using Nat.strongRecOn with
 |_ u a=>
  rw[Lib.decDigits];split
  .rename_i b;simp[z6,XD];omega
  rename_i b;have a:=a (u / 10) (by omega);unfold z6 at a ⊢;rw[List.foldl_append,a];simp[XD];omega
def AD(h:Lib.decDigits n=Lib.decDigits k):n=k:=by have:=Wd z6 h;rwa[AE,AE]at this
def C5(h:Lib.decDigits n=45::X):False:=by have:=uY n 45 (by rw[h];simp);simp at this
def sJ(h:Lib.itoa a=Lib.itoa M):a=M:=by
 unfold Lib.itoa at h;split at h<;>split at h
 .injection h with _ h;have:=AD h;omega
 .exact(C5 h.symm).elim
 .exact(C5 h).elim
 have:=AD h;omega
def mr:(32:UInt8) ∉ Lib.itoa a:=by
 unfold Lib.itoa;split
 .intro h;simp at h;have:=uY _ _ h;simp at this
 intro h;have:=uY _ _ h;simp at this
def wJ:∀{x d y c:YX},(32:UInt8) ∉ x->(32:UInt8) ∉ d->x++32::y=d++32::c->x=d/\y=c
 |[],[],y,c,_,_,h=>by simpa using h
 |[],b::d,y,c,_,h2,h=>by simp at h;exact absurd h.1 (by rintro rfl;simp at h2)
 |a::x,[],y,c,h1,_,h=>by simp at h;exact absurd h.1 (by rintro rfl;simp at h1)
 |a::x,b::d,y,c,h1,h2,h=>by simp at h h1 h2;obtain⟨rfl,h⟩:=h;obtain⟨e,g⟩:=wJ h1.2 h2.2 h;exact⟨by rw[e],g⟩
def qt(v:ai):YX:=Lib.itoa v.aC++(32::(Lib.itoa v.n++(32::(Lib.itoa (v.s.length:Nat)++(32::v.s)))))
def gE(row:YW):YX:=row.flatMap qt
def Bf:∀{a b:YW},gE a=gE b->a=b
 |[],[],_=>rfl
 |[],v::b,h=>by have:=Wd List.length h;simp[gE,qt]at this
 |v::a,[],h=>by have:=Wd List.length h;simp[gE,qt]at this
 |v::a,u::b,h=>by
  have g:∀(x:ai) (l:YW),gE (x::l)=Lib.itoa x.aC++(32::(Lib.itoa x.n++(32::(Lib.itoa (x.s.length:Nat)++(32::(x.s++gE l)))))):=λx l=>by unfold gE;rw[Xc];simp[qt]
  rw[g,g]at h;obtain⟨i,h⟩:=wJ mr mr h;obtain⟨j,h⟩:=wJ mr mr h;obtain⟨o,h⟩:=wJ mr mr h;have q:v.s.length=u.s.length:=by have:=sJ o;omega
  obtain⟨e,p⟩:=List.append_inj h q;have r:=Bf p;obtain⟨k,n,s⟩:=v;obtain⟨t,w,y⟩:=u;have c:=sJ i;have d:=sJ j;simp at c d e;rw[r,c,d,e]
def oD:∀(a b:YW),cC a b=true↔a=b
 |[],[]=>by simp[cC]
 |[],b::bs=>by simp[cC]
 |a::az,[]=>by simp[cC]
 |a::az,b::bs=>by simp[cC,ai.q,oD az bs]
structure DK:Prop where
 app:∀(B n:Nat) (i:Int) (sv:Zb) (xs:Y0) (w:Za),-9223372036854775808<=i->i<=9223372036854775807->w.ownsRow B 5 1 sv n xs->B<=w.heap.size->n<=100000000->Lib.TabBelow prog B w "internal/strconv.uint64pow10" .u64 Lib.pow10Tab ->
  Zc prog 231 #[sv,qI i,qI 10] w λe w'=>∃v',e=.returned v'/\w'.ownsRow B 5 1 v' (n+(Lib.itoa i).length) (xs++byteCells (Lib.itoa i))/\Below B w w'/\Lib.OthersKept 5 none w w'
structure KI(w W:Za)(acc:YX)(v:Zb):Prop where
 d:qB w W
 own:W.ownsRow w.heap.size 5 1 v acc.length<|byteCells acc
def tU(a b:YX):byteCells (a++b)=byteCells a++byteCells b:=by simp[byteCells]
def KI.num(X:DK)(r:kO w)(x:Int)(j: -9223372036854775808<=x)(k:x<=9223372036854775807)(W:Za)(a:YX)(d:Zb)(h:KI w W a d)(q:a.length<=100000000):
 Zc prog 231 #[d,qI x,qI 10] W λe i=>∃b,e=.returned b/\KI w i (a++Lib.itoa x) b/\∀(g:Nat) (C:Y_),W.heap[g]?=some (Obj.cells C 34)->i.heap[g]?=some (Obj.cells C 34):=by
 apply(X.app w.heap.size a.length x d (byteCells a) W j k h.own h.d.size q<|(Lib.tabBelow_of_tabIs r).on h.d).mono;rintro e i⟨b,rfl,l,n,o⟩;refine⟨b,rfl,⟨h.d.trans n,by rw[VH,tU];exact l⟩,λg C p=>o g _ p (by simp) λc t e=>?_⟩;injection e with _ e2;exact absurd e2<|by decide
def KI.more{c:Za}{l:YX}{v:Zb}(h:KI w W X v)(d:qB W x)(b:c.ownsRow w.heap.size 5 1 u (X.length+l.length)<|byteCells X++byteCells l)(j:x.grownBy c v.ownBlock):KI w c (X++l) u/\∀(g:Nat)(C:Y_),W.heap[g]?=some (Obj.cells C 34)->c.heap[g]?=some (Obj.cells C 34):=by
 refine⟨⟨a_ (h.d.trans<|d.mono h.d.size) j (λk hk=>(h.own.lt k hk).1)<|Wf h.d.size d.size,by rw[VH,tU];exact b⟩,λg C a=>?_⟩;have p:=lB a;have i:=(d.block g p).trans a;rw[j.block g (lB i) λe=>?_]
 .exact i
 obtain⟨rfl,_⟩|⟨q,cap,n,rfl,_,o,_⟩:=h.own.2
 .cases e
 simp[Zb.ownBlock]at e;subst e;rw[o]at a;injection a with a;injection a with _ e2;exact absurd e2<|by decide
def Cm(v:ai)(j:Nat):YX:=match j with
 |0=>[]
 |1=>Lib.itoa v.aC++[32]
 |2=>Lib.itoa v.aC++([32]++(Lib.itoa v.n++[32]))
 |_=>Lib.itoa v.aC++([32]++(Lib.itoa v.n++([32]++(Lib.itoa (v.s.length:Nat)++[32]))))
def Qs(X:DK){v:Zb}(hr:br w w.heap.size 3 vC I v)(al:gY I)(hl:I.length<=1000)(hp:kO w):
 Zc prog 177 #[v] w λe w'=>e=.returned (.string ⟨(gE I).toArray⟩)/\qB w w':=by
 have P:=Z hr;have O:=Z al;have r:=Z λ(x:Int) (S: -9223372036854775808<=x) (T:x<=9223372036854775807) (W:Za) (d:YX) (sv:Zb) (h:KI w W d sv) (hl:d.length<=100000000)=>KI.num X hp x S T W d sv h hl;have y:Ze (∀x:Int,-9223372036854775808<=x->x<=9223372036854775807->(Lib.itoa x).length<=21):=λx S T=>Lib.itoa_length_le x S T;obtain⟨L,hi,aa,ab,ac⟩:=V5 infoByte;have c:=Z<|And.intro hi<|And.intro aa<|And.intro ab ac;obtain⟨ra,rc,rfl,_⟩:=hr;go_in;go_wp2
 go_loopw [3,10] (λs3 am wr=>∃(i:Nat) (d:YX),i<=I.length/\am=.int .i64 (i:Nat)/\d.length<=i*150/\Ze (KI w wr d s3/\d=gE (I.take i))) (λ_ a _=>I.length-(Zk a).toNat)
 exact⟨0,[],qO,rfl,qO,⟨qW,VP _ _ _ _⟩,rfl⟩
 case round=>
  obtain⟨i,d,hi,rfl,ay,t⟩:=hrel;obtain⟨sa,sc,rfl⟩:=bN t.1.own;have F:=t.1.d;by_cases u:i<I.length
  .have hv:I[i]?=some I[i]:=VE u;obtain⟨g,cap,e0,hg,q0,q1,q2⟩:=(P.aL λk hk=>F.block k hk).val u;cases e0;have Y:I.getD i aE=I[i]:=by rw[Wm,hv];rfl
   rw[Y]at q0 q1 q2;have A:=O.o _<|VQ u;have R:Ze<|I.take (i+1)=I.take i++[I[i]]:=(XS u).symm;have az:g<wr.heap.size:=VT hg F.size;generalize I[i]=vv at*;obtain⟨o,p,n⟩:=vv;have ad:=A.aC;have ah:=A.range;have aJ:n.length<=40:=by obtain⟨_,_,h⟩|⟨_,h,_⟩|⟨_,_,h⟩|⟨_,_,h⟩:=A<;>simp at h<;>simp[h]
   simp at q0 q1 q2 ad ah;go_wp2;have Q:Ze<|KI w (wr.alloc<|.cells #[.int .i64 o,.int .i64 p,.string ⟨n.toArray⟩] 34) d (.slice sa d.length sc)/\d=d++Cm ⟨o,p,n⟩ 0/\(wr.alloc<|.cells #[.int .i64 o,.int .i64 p,.string ⟨n.toArray⟩] 34).heap[wr.heap.size]?=some (.cells #[.int .i64 o,.int .i64 p,.string ⟨n.toArray⟩] 34):=
    ⟨⟨t.1.d.alloc t.1.d.size _,aB qA t.1.own⟩,by simp[Cm],aM _ _⟩
   have HA:Ze<|d=gE (I.take i):=t.2;generalize wr.heap.size=J at*;generalize wr.alloc (.cells #[.int .i64 o,.int .i64 p,.string ⟨n.toArray⟩] 34)=W1 at*;have aK:∀w,(Instr.index 347 (.agg #[.int .i64 o,.int .i64 p,.int .i64 (n.length:Nat)])<|.int .i64 0).run prog w=.ok (.int .i64 o) w:=λ_=>by kernel_rfl
   have aL:∀w,(Instr.index 347 (.agg #[.int .i64 o,.int .i64 p,.int .i64 (n.length:Nat)])<|.int .i64 1).run prog w=.ok (.int .i64 p) w:=λ_=>by kernel_rfl
   have aN:∀w,(Instr.index 347 (.agg #[.int .i64 o,.int .i64 p,.int .i64 (n.length:Nat)])<|.int .i64 2).run prog w=.ok (.int .i64 (n.length:Nat)) w:=λ_=>by kernel_rfl
   go_loopw [3,22] (λs3 an H=>∃(j:Nat) (b:YX),j<=3/\an=.int .i64 (j:Nat)/\b.length<=i*150+j*30/\Ze (KI w H b s3/\b=d++Cm ⟨o,p,n⟩ j/\H.heap[J]?=some (.cells #[.int .i64 o,.int .i64 p,.string ⟨n.toArray⟩] 34))) (λ_ a _=>3-(Zk a).toNat)
   exact⟨0,d,qO,rfl,by omega,Q⟩;obtain⟨j,b,aA,rfl,ao,q⟩:=hrel;obtain⟨xa,xc,rfl⟩:=bN q.1.own;by_cases ap:j<3
   .have z:j=0\/j=1\/j=2:=by omega
    obtain z|z|z:=z
    .obtain rfl:j=0:=z;have HR:=Z<|r o (by omega) (by omega) wr b _ q.1 (by omega);have aC:=y.o o (by omega) (by omega);go_wp2_with fail;refine HR.mono ?_;rintro e w2⟨v2,rfl,K,g2⟩;obtain⟨aO,aR,rfl⟩:=bN K.own;have N:=Z K;have M:=Z<|g2 _ _ q.2.2;have B:=K.own;have av:=K.d.size;generalize G:(b++Lib.itoa o).length=n2 at*;have aq:n2<=b.length+21:=by rw[<-G,VH];omega
     have D:=Z G;go_wp2_with (at_builtin;refine Wv _ rfl (.tmp 28) (.tmp 29) 83 rfl w.heap.size 5 L _ 1 1 underlying83 c.1 c.2.1 c.2.2.1 c.2.2.2 rfl (by decide) _ _ _ rfl (B.alloc _) ⟨w2.heap.size,0,none⟩ 1 1 [.int .u8 32] rfl rfl ?c01 ?c02 ?c03 ?c04 ?c05 ?_)
     case c01=>exact cW w2 [.int .u8 32] 5
     case c02=>intro x hx;simp at hx;subst hx;rfl
     case c03=>unfold Zj;omega
     case c04=>omega
     case c05=>simp;omega
     intro v3 w3 C V ai aG;have U:=N.more (l:=[32]) (qW.alloc qZ<|.cells #[.int .u8 32] 5) (D▸C) V;have HF:Ze<|KI w w3 ((b++Lib.itoa o)++[32]) v3/\((b++Lib.itoa o)++[32])=d++Cm ⟨o,p,n⟩ 1/\w3.heap[J]?=some (.cells #[.int .i64 o,.int .i64 p,.string ⟨n.toArray⟩] 34):=by refine⟨U.1,?_,U.2 _ _ M⟩;rw[q.2.1];simp[Cm]
     have ae:((b++Lib.itoa o)++[32]).length<=i*150+1*30:=by rw[VH,D];simp;omega
     obtain⟨aU,aY,rfl⟩:=bN U.1.own;generalize (b++Lib.itoa o)++[32]=E at*;go_wp2;go_roundw;exact⟨1,E,by omega,rfl,ae,HF⟩;simp[Zk]
    .obtain rfl:j=1:=z;have HR:=Z<|r p (by omega) (by omega) wr b _ q.1 (by omega);have aD:=y.o p (by omega) (by omega);go_wp2_with fail;refine HR.mono ?_;rintro e w2⟨v2,rfl,K,g2⟩;obtain⟨aP,aS,rfl⟩:=bN K.own;have N:=Z K;have M:=Z<|g2 _ _ q.2.2;have B:=K.own;have aw:=K.d.size;generalize G:(b++Lib.itoa p).length=n2 at*;have ar:n2<=b.length+21:=by rw[<-G,VH];omega
     have D:=Z G;go_wp2_with (at_builtin;refine Wv _ rfl (.tmp 28) (.tmp 29) 83 rfl w.heap.size 5 L _ 1 1 underlying83 c.1 c.2.1 c.2.2.1 c.2.2.2 rfl (by decide) _ _ _ rfl (B.alloc _) ⟨w2.heap.size,0,none⟩ 1 1 [.int .u8 32] rfl rfl ?c11 ?c12 ?c13 ?c14 ?c15 ?_)
     case c11=>exact cW w2 [.int .u8 32] 5
     case c12=>intro x hx;simp at hx;subst hx;rfl
     case c13=>unfold Zj;omega
     case c14=>omega
     case c15=>simp;omega
     intro v3 w3 C V aj aH;have U:=N.more (l:=[32]) (qW.alloc qZ<|.cells #[.int .u8 32] 5) (D▸C) V;have HF:Ze<|KI w w3 ((b++Lib.itoa p)++[32]) v3/\((b++Lib.itoa p)++[32])=d++Cm ⟨o,p,n⟩ 2/\w3.heap[J]?=some (.cells #[.int .i64 o,.int .i64 p,.string ⟨n.toArray⟩] 34):=by refine⟨U.1,?_,U.2 _ _ M⟩;rw[q.2.1];simp[Cm]
     have af:((b++Lib.itoa p)++[32]).length<=i*150+2*30:=by rw[VH,D];simp;omega
     obtain⟨aV,aZ,rfl⟩:=bN U.1.own;generalize (b++Lib.itoa p)++[32]=E at*;go_wp2;go_roundw;exact⟨2,E,by omega,rfl,af,HF⟩;simp[Zk]
    obtain rfl:j=2:=z;have HR:=Z<|r ((n.length:Nat):Int) (by omega) (by omega) wr b _ q.1 (by omega);have aF:=y.o ((n.length:Nat):Int) (by omega) (by omega);go_wp2_with fail;refine HR.mono ?_;rintro e w2⟨v2,rfl,K,g2⟩;obtain⟨aQ,aT,rfl⟩:=bN K.own;have N:=Z K;have M:=Z<|g2 _ _ q.2.2;have B:=K.own;have ax:=K.d.size;generalize G:(b++Lib.itoa ((n.length:Nat):Int)).length=n2 at*;have au:n2<=b.length+21:=by rw[<-G,VH];omega
    have D:=Z G;go_wp2_with (at_builtin;refine Wv _ rfl (.tmp 28) (.tmp 29) 83 rfl w.heap.size 5 L _ 1 1 underlying83 c.1 c.2.1 c.2.2.1 c.2.2.2 rfl (by decide) _ _ _ rfl (B.alloc _) ⟨w2.heap.size,0,none⟩ 1 1 [.int .u8 32] rfl rfl ?c21 ?c22 ?c23 ?c24 ?c25 ?_)
    case c21=>exact cW w2 [.int .u8 32] 5
    case c22=>intro x hx;simp at hx;subst hx;rfl
    case c23=>unfold Zj;omega
    case c24=>omega
    case c25=>simp;omega
    intro v3 w3 C V ak aI;have U:=N.more (l:=[32]) (qW.alloc qZ<|.cells #[.int .u8 32] 5) (D▸C) V;have HF:Ze<|KI w w3 ((b++Lib.itoa ((n.length:Nat):Int))++[32]) v3/\((b++Lib.itoa ((n.length:Nat):Int))++[32])=d++Cm ⟨o,p,n⟩ 3/\w3.heap[J]?=some (.cells #[.int .i64 o,.int .i64 p,.string ⟨n.toArray⟩] 34):=by refine⟨U.1,?_,U.2 _ _ M⟩;rw[q.2.1];simp[Cm]
    have ag:((b++Lib.itoa ((n.length:Nat):Int))++[32]).length<=i*150+3*30:=by rw[VH,D];simp;omega
    obtain⟨aW,a0,rfl⟩:=bN U.1.own;generalize (b++Lib.itoa ((n.length:Nat):Int))++[32]=E at*;go_wp2;go_roundw;exact⟨3,E,by omega,rfl,ag,HF⟩;simp[Zk]
   obtain rfl:j=3:=by omega
   have D:=q.2.2;have x2:=bC D 2;simp at x2;have U:=lB D;have z:=q.1.own;have M:=q.1.d.size;go_wp2_with (at_builtin;refine X9 _ rfl (.tmp 32) (.tmp 34) 83 9 rfl w.heap.size 5 L underlying83 underlying9 c.1 c.2.1 c.2.2.1 c.2.2.2 _ _ _ rfl z ⟨n.toArray⟩ rfl ?d3 ?d4 ?d5 ?_)
   case d3=>unfold Zj;have:(⟨n.toArray⟩:Y9).size=n.length:=rfl;omega
   case d4=>first|omega|(have:(⟨n.toArray⟩:Y9).size=n.length:=rfl;omega)|(simp;omega)
   case d5=>first|omega|(have:(⟨n.toArray⟩:Y9).size=n.length:=rfl;omega)
   intro V w3 B E _;have K:=q.1.more (l:=n) qW (by simpa[Lib.strCells,byteCells]using B) E;have N:Ze<|KI w w3 (b++n) V/\b++n=gE (I.take<|i+1):=by refine⟨K.1,?_⟩;rw[R,q.2.1,HA];simp[gE,qt,Cm]
   have G:(b++n).length<=(i+1)*150:=by rw[VH];omega
   obtain⟨aX,a1,rfl⟩:=bN K.1.own;generalize b++n=C at*;go_wp2;go_roundw;exact⟨i+1,C,by omega,by go_num,G,N⟩;simp[Zk];omega
  obtain rfl:i=I.length:=by omega
  have g:Ze<|d=gE I:=by have:=t.2;rwa[Wj]at this
  have b:=Z t.1.d;have j:=FE t.1.own;go_wp2;go_ret;exact⟨by rw[<-g];rfl,b⟩
def F4{v:ai}(h:dv v):(qt v).length<=150:=by
 have a:=Lib.itoa_length_le v.aC (by have:=h.aC;omega) (by have:=h.aC;omega);have b:=Lib.itoa_length_le v.n h.range.1 h.range.2;have d:v.s.length<=40:=by obtain⟨_,_,h⟩|⟨_,h,_⟩|⟨_,_,h⟩|⟨_,_,h⟩:=h<;>simp[h]
 have c:=Lib.itoa_length_le (v.s.length:Int) (by omega) (by omega);simp[qt];omega
def y8:∀{row:YW},gY row->(gE row).length<=row.length*150
 |[],_=>by simp[gE]
 |v::row,h=>by have c:=F4<|h v (by simp);have a:=y8 (row:=row) λx b=>h x (by simp[b]);unfold gE at a ⊢;rw[Xc,VH,Wk];omega
def Ct(h:I∈N):fq N (I::O)=fq N O:=by rw[fq,VG<|Ys.2 ⟨I,h,(oD _ _).2 rfl⟩]
def Cu(h:I ∉ N):fq N (I::O)=I::fq (N++[I]) O:=by
 rw [fq,VF (λe=>by
  obtain⟨x,a,e⟩:=Ys.1 e
  exact h<|(oD _ _).1 e▸a)]
def P3:Keyed prog 9:=string_keyed underlying9
def O9:(zeroValue 3).run prog w=.ok (qI 0) w:=by kernel_rfl
def kl(r:YW):Lit:=.string<|gE r
def Sk(h:gY I)(a:I.length<=1000):keyOf prog 9 (.string ⟨(gE I).toArray⟩)=some (kl I):=by have:=keyOf_string_mk (P:=prog) underlying9 (s:=⟨(gE I).toArray⟩) (by have:=y8 h;unfold Zj;show(gE I).toArray.size<=_;simp;omega);simpa[kl]using this
def Sl(h:kl I=kl J):I=J:=by unfold kl at h;injection h with h;exact Bf h
def xw{k:TypeId}{R:Zb->Option (DataW Unit×List MemPlace)}{D:DataW Unit}(h:w.ownsMap prog k R i n D)(e:W.heap[i]?=w.heap[i]?):W.ownsMap prog k R i n D:=by obtain⟨a,c,b,d⟩:=h;exact⟨a,c,e.trans b,d⟩
def vD{k:TypeId}{R:Zb->Option (DataW Unit×List MemPlace)}{D:DataW Unit}(h:w.ownsMap prog k R i n D):i<w.heap.size:=by obtain⟨b,c,a,d⟩:=h;exact lB a
structure TI(w W:Za)(qs:YZ)(i:Nat)(rs:YZ)(v:Zb)(D:DataW Unit):Prop where
 d:qB w W
 map:W.ownsMap prog 9 (plainElem (H:=Unit) prog 3) w.heap.size i D
 own:W.ownsRow (w.heap.size+1) 32 1 v rs.length<|df rs
 sub:rs.Sublist<|qs.take i
 eq:j8 (qs.map (·.1))=rs.map (·.1)++fq (rs.map (·.1)) ((qs.drop i).map (·.1))
 a:∀q∈qs,∃c:Int,D.atKey (kl q.1) (.lit<|.int .i64 0)=.lit (.int .i64 c)/\0<=c/\c<=i/\(0<c↔q.1∈rs.map (·.1))
def TI.none(w:Za)(a:YZ):TI w (w.alloc<|.map #[] 0) a 0 [] qN<|.map []:=
 ⟨qA,Za.ownsMap_made _ _ _ _,VP _ _ _ _,by simp,by simp[j8],λq _=>⟨0,rfl,by omega,by omega,by simp⟩⟩
def TI.below{i:Nat}{v:Zb}{D:DataW Unit}(h:TI w W o i p v D)(a:qB W x):TI w x o i p v D:=
 ⟨h.d.trans<|a.mono h.d.size,xw h.map<|a.block _<|vD h.map,aB a h.own,h.sub,h.eq,h.a⟩
def TI.counts{g c:YZ}{v:Zb}{D:DataW Unit}(h:TI w W o i g v D){q:au}(C:D.atKey (kl q.1) (.lit<|.int .i64 0)=.lit (.int .i64 a))(A:0<=a)(E:a<=i)(t:q.1∈c.map (·.1))(u:∀x,x≠q.1->(x∈c.map (·.1)↔x∈g.map (·.1))):
 ∀p∈o,∃d:Int,(D.put (kl q.1)<|.lit<|.int .i64<|a+1).atKey (kl p.1) (.lit<|.int .i64 0)=.lit (.int .i64 d)/\0<=d/\d<=((i+1:Nat):Int)/\(0<d↔p.1∈c.map (·.1)):=λp r=>by
 have n:IsMap D:=by obtain⟨z,y,_,_,_,e⟩:=h.map;exact⟨_,e⟩
 by_cases b:p.1=q.1
 .rw[b];exact⟨a+1,atKey_put_same n (by unfold kl;trivial) _ _,by omega,by omega,by simp[t];omega⟩
 .obtain⟨d,j,k,B,l⟩:=h.a p r;refine⟨d,?_,k,by omega,?_⟩
  .rw[atKey_put_other λe=>b<|Sl e];exact j
  rw[u _ b];exact l
def TI.met{g:Za}{v:Zb}{D:DataW Unit}(h:TI w W o i p v D){q:au}(u:o[i]?=some q)(n:D.atKey (kl q.1) (.lit<|.int .i64 0)=.lit (.int .i64 a))(C:0<a)(F:a<=i)
 (E:g.ownsMap prog 9 (plainElem (H:=Unit) prog 3) w.heap.size (i+1)<|D.put (kl q.1)<|.lit<|.int .i64<|a+1) (r:W.grownBy g<|some w.heap.size):TI w g o (i+1) p v<|D.put (kl q.1)<|.lit<|.int .i64<|a+1:=by
 have c:=VY u;obtain⟨y,l,z,A,B⟩:=h.a q c;have j:y=a:=by rw[n]at l;injection l with e;injection e with _ e;exact e.symm
 subst j;have b:=B.1 C;obtain⟨t,d⟩:=VZ.1 u;have hd:o.drop i=q::o.drop (i+1):=by rw[VJ t,d]
 refine⟨a_ h.d r (λk hk=>by injection hk with hk;omega) h.d.size,E,?_,h.sub.trans (by rw[show o.take (i+1)=o.take i++[q] by rw[<-d];exact(XS t).symm];exact List.sublist_append_left _ _),?_,h.counts n z A b λx _=>Iff.rfl⟩
 .exact cN h.own λk hk=>r.block k (h.own.lt k hk).2 (λe=>by injection e with e;have:=(h.own.lt k hk).1;omega)
 .rw[h.eq,hd,We,Ct b]
def TI.new{b t:Za}{v:Zb}{D:DataW Unit}(h:TI w W o i p v D){q:au}(F:o[i]?=some q)(B:D.atKey (kl q.1) (.lit<|.int .i64 0)=.lit (.int .i64 0))
 (E:b.ownsMap prog 9 (plainElem (H:=Unit) prog 3) w.heap.size (i+1)<|D.put (kl q.1)<|.lit<|.int .i64<|0+1)(J:W.grownBy b<|some w.heap.size){c:Za}(r:Below b.heap.size b c)(l:t.ownsRow (w.heap.size+1) 32 1 u (p.length+1)<|df p++[q.2])(d:c.grownBy t v.ownBlock):
 TI w t o (i+1) (p++[q]) u (D.put (kl q.1)<|.lit<|.int .i64<|0+1):=by
 have j:=VY F;obtain⟨G,A,L,M,I⟩:=h.a q j;have y:G=0:=by rw[B]at A;injection A with e;injection e with _ e;exact e.symm
 subst y;have z:q.1 ∉ p.map (·.1):=λe=>by have:=I.2 e;omega
 obtain⟨C,n⟩:=VZ.1 F;have hd:o.drop i=q::o.drop (i+1):=by rw[VJ C,n]
 have a:qB w b:=a_ h.d J (λk hk=>by injection hk with hk;omega) h.d.size;have g:=vD E;refine⟨a_ (a.trans<|r.mono a.size) d (λk hk=>by have:=(h.own.lt k hk).1;omega)<|Wf a.size r.size,?_,by simpa[df]using l,?_,?_,h.counts B (by omega) (by omega) (by simp) λx K=>by simp[K]⟩
 .refine xw E ?_;rw[d.block _ (VT g r.size) (λe=>by have:=(h.own.lt _ e.symm).1;omega)];exact r.block _ g
 .rw[show o.take (i+1)=o.take i++[q] by rw[<-n];exact(XS C).symm];exact h.sub.append_right [q]
 .rw[h.eq,hd,We,Cu z];simp
def CK(X:DK){v:Zb}(hp:kO w)(B:w.ownsRow j 32 1 v o.length<|df o)(x:fP w j o)(hl:o.length<=20000)(H:∀q∈o,q.1.length<=1000/\gY q.1):
 Zc prog 114 #[v] w λe T=>qB w T/\∃d u,e=.returned u/\d.map (·.1)=j8 (o.map (·.1))/\d.Sublist o/\T.ownsRow w.heap.size 32 1 u d.length (df d):=by
 have HM:=Z<|qy B x.rows;have L:=Z H;have K:Ze (∀(W:Za) (q:au),q∈o->qB w W->Zc prog 177 #[q.2] W λe T=>e=.returned (.string ⟨(gE q.1).toArray⟩)/\qB W T):=λW q Q hb=>
  Qs X ((x.rows q Q).below hb) (H q Q).2 (H q Q).1 (hp.aL<|hb.block _ hp.lt)
 obtain⟨i0,hi,ad,ae,af⟩:=V5 iN;have l:=Z<|And.intro hi<|And.intro ad<|And.intro ae af;have Y:Ze (∀q∈o,∃a n c,q.2=.slice a n c):=λq Q=>aF<|x.1 q Q;have aa:=Z<|TI.none w o;obtain⟨va,vc,rfl⟩:=bN B;have ap:=@run_makeMap prog;go_in;go_wp2;go_step3;go_wp2;go_step3;go_wp2
 go_loopw [4,11] (λs4 aj wr=>∃(i:Nat) (d:YZ) (D:DataW Unit),i<=o.length/\aj=.int .i64 (i:Nat)/\d.length<=i/\Ze (TI w wr o i d s4 D)) (λ_ a _=>o.length-(Zk a).toNat)
 exact⟨0,[],_,qO,rfl,qZ,aa⟩
 case round=>
  obtain⟨i,d,D,hi,rfl,aq,J⟩:=hrel;obtain⟨sa,sc,rfl⟩:=bN J.own;have E:=J.d;by_cases P:i<o.length
  ·have U:Ze<|o[i]?=some o[i]:=VE P;have b:=Z<|VQ P;generalize o[i]=q at*;obtain⟨g,cap,he,hg,d0⟩:=(HM.1.aL λk hk=>E.block k hk).c U;cases he;have ao:g<wr.heap.size:=VT hg E.size;obtain⟨qa,qn,qc,R⟩:=Y.o q b;have HC:=Z<|K wr q b E;rw[R]at HC d0;obtain⟨c,hc,am,ac,an⟩:=J.a q b;have ag:=Sk (L q b).2 (L q b).1;have C:=Z hc;have y:=Z ag;have V:=Z R;generalize (⟨(gE q.1).toArray⟩:Y9)=ks at*;go_wp2_with fail;refine HC.mono ?_;rintro e w2⟨rfl,ab⟩;have r:=Z<|J.below ab;have G:=r.map;have z:Ze<|(D.put (kl q.1)<|.lit<|.int .i64<|c+1).atKey (kl q.1) (.lit<|.int .i64 0)=.lit (.int .i64<|c+1):=by
    obtain⟨A,p,_,_,_,e⟩:=G;exact atKey_put_same ⟨_,e⟩ (by unfold kl;trivial) _ _
   go_wp2_with (first
    |(at_lookup;refine wpList_lookup_own_int _ rfl _ _ 292 rfl 9 3 .i64 P3 underlying292 underlying3 O9 w.heap.size i _ rfl G _ _ rfl y ?_;intro c1 N ar;obtain rfl:c=c1:=by(rw[C]at N;injection N with h;injection h with _ h))
    |(at_mapUpdate;refine wpList_mapUpdate_own _ rfl _ _ _ 292 rfl 9 3 P3 underlying292 _ w.heap.size i _ rfl G (by unfold Zj;omega) _ _ _ rfl rfl y _ [] (plainElem_int underlying3<|WalkArith.wf_i64<|by omega) ?_))
   intro w3 t F;by_cases h0:0<c
   .have O:(1:Int)<c+1:=by omega
    have I:=Z<|r.met U C h0 ac t F;have M:=Z t;go_wp2_with (at_lookup;refine wpList_lookup_own_int _ rfl _ _ 292 rfl 9 3 .i64 P3 underlying292 underlying3 O9 w.heap.size (i+1) _ rfl t _ _ rfl y ?_;intro c2 p A;obtain rfl:c+1=c2:=by(rw[z]at p;injection p with h;injection h with _ h));exact⟨⟨i+1,d,_,by omega,by go_num,by omega,I⟩,by simp[Zk];omega⟩
   obtain rfl:c=0:=by omega
   have M:=Z<|And.intro t F;have I:w3.ownsRow (w.heap.size+1) 32 1 (.slice sa d.length sc) d.length<|df d:=cN r.own λk hk=>F.block k (r.own.lt k hk).2 (λe=>by injection e with e;have:=(r.own.lt k hk).1;omega);have av:w.heap.size<w3.heap.size:=vD t
   go_wp2_with (first
    |(at_lookup;refine wpList_lookup_own_int _ rfl _ _ 292 rfl 9 3 .i64 P3 underlying292 underlying3 O9 w.heap.size (i+1) _ rfl t _ _ rfl y ?_;intro c2 A al;obtain rfl:(0:Int)+1=c2:=by(rw[z]at A;injection A with h;injection h with _ h))
    |(at_builtin;refine Wv _ rfl (.tmp 25) (.tmp 27) 29 rfl (w.heap.size+1) 32 i0 _ 1 24 underlying29 l.1 l.2.1 l.2.2.1 l.2.2.2 rfl (by decide) _ _ _ rfl (I.alloc _) ⟨w3.heap.size,0,none⟩ 1 1 [.slice qa qn qc] rfl rfl ?m1 ?m2 ?m3 ?m4 ?m5 ?_))
   case m2=>rfl
   case m3=>unfold Zj;omega
   case m4=>omega
   case m5=>omega
   intro aw ax p O S ak;have HF:=Z<|r.new (q:=q) U C M.1 M.2 qA (V▸p) O;obtain⟨ya,yn,yc,rfl⟩:=aF p;have ah:(d++[q]).length<=i+1:=by simp;omega
   generalize d++[q]=ai at*;go_wp2;go_roundw;exact⟨i+1,ai,_,by omega,by go_num,ah,HF⟩;simp[Zk];omega
  obtain rfl:i=o.length:=by omega
  have g:Ze (qB w wr/\∃b u,Ending.returned (.slice sa d.length sc)=.returned u/\b.map (·.1)=j8 (o.map (·.1))/\b.Sublist o/\wr.ownsRow w.heap.size 32 1 u b.length (df b)):=by
   have h:=J.o;refine⟨h.d,d,_,rfl,?_,?_,bU h.own<|by omega⟩
   .rw[h.eq];simp[fq]
   have:=h.sub;rwa[Wj]at this
  go_wp2;go_ret;exact g
