import Derived.Lib.AppendIntMem
import Derived.Lib.ItoaLen
import Derived.Lib.OthersKept
import Derived.Test.YtojdpjpldokjmaaGreatDoorC11
import Derived.Test.YtojdpjpldokjmaaGreatDoorC12
set_option maxHeartbeats 0
set_option maxRecDepth 100000
set_option linter.all false
namespace Go.Proofs.YtojdpjpldokjmaaGreatDoor
open Go.Deep Go.RowKit Tryz
open Go renaming World->Za,Value->Zb,maxLen->Zj
open RowKit renaming Hid->Ze,intOf->Zk
variable{k n:Nat}{X:YX}{M a:Int}{W w x:World}{u:Value}{I:YW}
def uY(u:Nat):∀b:UInt8,b∈Lib.decDigits u->48<=b.toNat/\b.toNat<=57:=by
 induction u using Nat.strongRecOn with
 |_ u ih=>
  intro b h;rw[Lib.decDigits]at h;split at h
  .simp at h;subst h;simp[XD];omega
  rename_i a;obtain h|h:=V1.1 h
  .exact ih (u / 10) (by omega) b h
  simp at h;subst h;simp[XD];omega
def z6(l:YX):Nat:=l.foldl (λa b=>a*10+(b.toNat-48)) 0
def AE(u:Nat):z6 (Lib.decDigits u)=u:=by
 induction u using Nat.strongRecOn with
 |_ u a=>
  rw[Lib.decDigits];split
  .rename_i b;simp[z6,XD];omega
  rename_i b;have a:=a (u / 10) (by omega);unfold z6 at a ⊢;rw[List.foldl_append,a];simp[XD];omega
def AD(h:Lib.decDigits n=Lib.decDigits k):n=k:=by have:=Wd z6 h;rwa[AE,AE]at this
def C5(h:Lib.decDigits n=45::X):False:=by have:=uY n 45 (by rw[h];simp);simp at this
def sJ(h:Lib.itoa a=Lib.itoa M):a=M:=by
 unfold Lib.itoa at h;split at h<;>split at h
 .injection h with _ h;have:=AD h;omega
 .exact(C5 h.symm).elim
 .exact(C5 h).elim
 have:=AD h;omega
def mr:(32:UInt8) ∉ Lib.itoa a:=by
 unfold Lib.itoa;split
 .intro h;simp at h;have:=uY _ _ h;simp at this
 intro h;have:=uY _ _ h;simp at this
def wJ:∀{x d y c:YX},(32:UInt8) ∉ x->(32:UInt8) ∉ d->x++32::y=d++32::c->x=d/\y=c
 |[],[],y,c,_,_,h=>by simpa using h
 |[],b::d,y,c,_,h2,h=>by simp at h;exact absurd h.1 (by rintro rfl;simp at h2)
 |a::x,[],y,c,h1,_,h=>by simp at h;exact absurd h.1 (by rintro rfl;simp at h1)
 |a::x,b::d,y,c,h1,h2,h=>by simp at h h1 h2;obtain⟨rfl,h⟩:=h;obtain⟨e,g⟩:=wJ h1.2 h2.2 h;exact⟨by rw[e],g⟩
def qt(v:ai):YX:=Lib.itoa v.aC++(32::(Lib.itoa v.n++(32::(Lib.itoa (v.s.length:Nat)++(32::v.s)))))
def gE(row:YW):YX:=row.flatMap qt
def Bf:∀{a b:YW},gE a=gE b->a=b
 |[],[],_=>rfl
 |[],v::b,h=>by have:=Wd List.length h;simp[gE,qt]at this
 |v::a,[],h=>by have:=Wd List.length h;simp[gE,qt]at this
 |v::a,u::b,h=>by
  have g:∀(x:ai) (l:YW),gE (x::l)=Lib.itoa x.aC++(32::(Lib.itoa x.n++(32::(Lib.itoa (x.s.length:Nat)++(32::(x.s++gE l)))))):=λx l=>by unfold gE;rw[Xc];simp[qt]
  rw[g,g]at h;obtain⟨i,h⟩:=wJ mr mr h;obtain⟨j,h⟩:=wJ mr mr h;obtain⟨o,h⟩:=wJ mr mr h;have q:v.s.length=u.s.length:=by have:=sJ o;omega
  obtain⟨e,p⟩:=List.append_inj h q;have r:=Bf p;obtain⟨k,n,s⟩:=v;obtain⟨t,w,y⟩:=u;have c:=sJ i;have d:=sJ j;simp at c d e;rw[r,c,d,e]
def oD:∀(a b:YW),cC a b=true↔a=b
 |[],[]=>by simp[cC]
 |[],b::bs=>by simp[cC]
 |a::az,[]=>by simp[cC]
 |a::az,b::bs=>by simp[cC,ai.l,oD az bs]
structure DK:Prop where
 app:∀(B n:Nat) (i:Int) (sv:Zb) (xs:Y0) (w:Za),-9223372036854775808<=i->i<=9223372036854775807->w.ownsRow B 5 1 sv n xs->B<=w.heap.size->n<=100000000->Lib.TabBelow prog B w "internal/strconv.uint64pow10" .u64 Lib.pow10Tab ->
  Calls prog 231 #[sv,qI i,qI 10] w λe w'=>∃v',e=.returned v'/\w'.ownsRow B 5 1 v' (n+(Lib.itoa i).length) (xs++byteCells (Lib.itoa i))/\Below B w w'/\Lib.OthersKept 5 none w w'
structure KI(w W:Za)(acc:YX)(v:Zb):Prop where
 d:qB w W
 own:W.ownsRow w.heap.size 5 1 v acc.length<|byteCells acc
def tU(a b:YX):byteCells (a++b)=byteCells a++byteCells b:=by simp[byteCells]
def KI.num(X:DK)(r:kO w)(x:Int)(j: -9223372036854775808<=x)(k:x<=9223372036854775807)(W:Za)(a:YX)(d:Zb)(h:KI w W a d)(q:a.length<=100000000):
 Calls prog 231 #[d,qI x,qI 10] W λe i=>∃b,e=.returned b/\KI w i (a++Lib.itoa x) b/\∀(g:Nat) (C:Y_),W.heap[g]?=some (Obj.cells C 34)->i.heap[g]?=some (Obj.cells C 34):=by
 apply(X.app w.heap.size a.length x d (byteCells a) W j k h.own h.d.size q<|(Lib.tabBelow_of_tabIs r).on h.d).mono;rintro e i⟨b,rfl,l,n,o⟩;refine⟨b,rfl,⟨h.d.trans n,by rw[VH,tU];exact l⟩,λg C p=>o g _ p (by simp) λc t e=>?_⟩;injection e with _ e2;exact absurd e2<|by decide
def KI.more{c:Za}{l:YX}{v:Zb}(h:KI w W X v)(d:qB W x)(b:c.ownsRow w.heap.size 5 1 u (X.length+l.length)<|byteCells X++byteCells l)(j:x.grownBy c v.ownBlock):KI w c (X++l) u/\∀(g:Nat)(C:Y_),W.heap[g]?=some (Obj.cells C 34)->c.heap[g]?=some (Obj.cells C 34):=by
 refine⟨⟨a_ (h.d.trans<|d.mono h.d.size) j (λk hk=>(h.own.lt k hk).1)<|Wf h.d.size d.size,by rw[VH,tU];exact b⟩,λg C a=>?_⟩;have p:=lB a;have i:=(d.block g p).trans a;rw[j.block g (lB i) λe=>?_]
 .exact i
 obtain⟨rfl,_⟩|⟨q,cap,n,rfl,_,o,_⟩:=h.own.2
 .cases e
 simp[Zb.ownBlock]at e;subst e;rw[o]at a;injection a with a;injection a with _ e2;exact absurd e2<|by decide
def Cm(v:ai)(j:Nat):YX:=match j with
 |0=>[]
 |1=>Lib.itoa v.aC++[32]
 |2=>Lib.itoa v.aC++([32]++(Lib.itoa v.n++[32]))
 |_=>Lib.itoa v.aC++([32]++(Lib.itoa v.n++([32]++(Lib.itoa (v.s.length:Nat)++[32]))))
def Qs(X:DK){v:Zb}(hr:br w w.heap.size 3 vC I v)(al:gY I)(hl:I.length<=1000)(hp:kO w):
 Calls prog 177 #[v] w λe w'=>e=.returned (.string ⟨(gE I).toArray⟩)/\qB w w':=by
 have P:=Z hr;have O:=Z al;have r:=Z λ(x:Int) (S: -9223372036854775808<=x) (T:x<=9223372036854775807) (W:Za) (d:YX) (sv:Zb) (h:KI w W d sv) (hl:d.length<=100000000)=>KI.num X hp x S T W d sv h hl;have y:Ze (∀x:Int,-9223372036854775808<=x->x<=9223372036854775807->(Lib.itoa x).length<=21):=λx S T=>Lib.itoa_length_le x S T;obtain⟨L,hi,aa,ab,ac⟩:=V5 infoByte;have c:=Z<|And.intro hi<|And.intro aa<|And.intro ab ac;obtain⟨ra,rc,rfl,_⟩:=hr;go_in;go_wp2
 go_loopw [3,10] (λs3 am wr=>∃(i:Nat) (d:YX),i<=I.length/\am=.int .i64 (i:Nat)/\d.length<=i*150/\Ze (KI w wr d s3/\d=gE (I.take i))) (λ_ a _=>I.length-(Zk a).toNat)
 exact⟨0,[],qO,rfl,qO,⟨qW,VP _ _ _ _⟩,rfl⟩
 case round=>
  obtain⟨i,d,hi,rfl,ay,t⟩:=hrel;obtain⟨sa,sc,rfl⟩:=bN t.1.own;have F:=t.1.d;by_cases u:i<I.length
  .have hv:I[i]?=some I[i]:=VE u;obtain⟨g,cap,e0,hg,q0,q1,q2⟩:=(P.aL λk hk=>F.block k hk).val u;cases e0;have Y:I.getD i aE=I[i]:=by rw[Wm,hv];rfl
   rw[Y]at q0 q1 q2;have A:=O.o _<|VQ u;have R:Ze<|I.take (i+1)=I.take i++[I[i]]:=(XS u).symm;have az:g<wr.heap.size:=VT hg F.size;generalize I[i]=vv at*;obtain⟨o,p,n⟩:=vv;have ad:=A.aC;have ah:=A.range;have aJ:n.length<=40:=by obtain⟨_,_,h⟩|⟨_,h,_⟩|⟨_,_,h⟩|⟨_,_,h⟩:=A<;>simp at h<;>simp[h]
   simp at q0 q1 q2 ad ah;go_wp2;have Q:Ze<|KI w (wr.alloc<|.cells #[.int .i64 o,.int .i64 p,.string ⟨n.toArray⟩] 34) d (.slice sa d.length sc)/\d=d++Cm ⟨o,p,n⟩ 0/\(wr.alloc<|.cells #[.int .i64 o,.int .i64 p,.string ⟨n.toArray⟩] 34).heap[wr.heap.size]?=some (.cells #[.int .i64 o,.int .i64 p,.string ⟨n.toArray⟩] 34):=
    ⟨⟨t.1.d.alloc t.1.d.size _,aB qA t.1.own⟩,by simp[Cm],aM _ _⟩
   have HA:Ze<|d=gE (I.take i):=t.2;generalize wr.heap.size=J at*;generalize wr.alloc (.cells #[.int .i64 o,.int .i64 p,.string ⟨n.toArray⟩] 34)=W1 at*;have aK:∀w,(Instr.index 347 (.agg #[.int .i64 o,.int .i64 p,.int .i64 (n.length:Nat)])<|.int .i64 0).run prog w=.ok (.int .i64 o) w:=λ_=>by kernel_rfl
   have aL:∀w,(Instr.index 347 (.agg #[.int .i64 o,.int .i64 p,.int .i64 (n.length:Nat)])<|.int .i64 1).run prog w=.ok (.int .i64 p) w:=λ_=>by kernel_rfl
   have aN:∀w,(Instr.index 347 (.agg #[.int .i64 o,.int .i64 p,.int .i64 (n.length:Nat)])<|.int .i64 2).run prog w=.ok (.int .i64 (n.length:Nat)) w:=λ_=>by kernel_rfl
   go_loopw [3,22] (λs3 an H=>∃(j:Nat) (b:YX),j<=3/\an=.int .i64 (j:Nat)/\b.length<=i*150+j*30/\Ze (KI w H b s3/\b=d++Cm ⟨o,p,n⟩ j/\H.heap[J]?=some (.cells #[.int .i64 o,.int .i64 p,.string ⟨n.toArray⟩] 34))) (λ_ a _=>3-(Zk a).toNat)
   exact⟨0,d,qO,rfl,by omega,Q⟩;obtain⟨j,b,aA,rfl,ao,q⟩:=hrel;obtain⟨xa,xc,rfl⟩:=bN q.1.own;by_cases ap:j<3
   .have z:j=0\/j=1\/j=2:=by omega
    obtain z|z|z:=z
    .obtain rfl:j=0:=z;have HR:=Z<|r o (by omega) (by omega) wr b _ q.1 (by omega);have aC:=y.o o (by omega) (by omega);go_wp2_with fail;refine HR.mono ?_;rintro e w2⟨v2,rfl,K,g2⟩;obtain⟨aO,aR,rfl⟩:=bN K.own;have N:=Z K;have M:=Z<|g2 _ _ q.2.2;have B:=K.own;have av:=K.d.size;generalize G:(b++Lib.itoa o).length=n2 at*;have aq:n2<=b.length+21:=by rw[<-G,VH];omega
     have D:=Z G;go_wp2_with (at_builtin;refine Wv _ rfl (.tmp 28) (.tmp 29) 83 rfl w.heap.size 5 L _ 1 1 underlying83 c.1 c.2.1 c.2.2.1 c.2.2.2 rfl (by decide) _ _ _ rfl (B.alloc _) ⟨w2.heap.size,0,none⟩ 1 1 [.int .u8 32] rfl rfl ?c01 ?c02 ?c03 ?c04 ?c05 ?_)
     case c01=>exact cW w2 [.int .u8 32] 5
     case c02=>intro x hx;simp at hx;subst hx;rfl
     case c03=>unfold Zj;omega
     case c04=>omega
     case c05=>simp;omega
     intro v3 w3 C V ai aG;have U:=N.more (l:=[32]) (qW.alloc qZ<|.cells #[.int .u8 32] 5) (D▸C) V;have HF:Ze<|KI w w3 ((b++Lib.itoa o)++[32]) v3/\((b++Lib.itoa o)++[32])=d++Cm ⟨o,p,n⟩ 1/\w3.heap[J]?=some (.cells #[.int .i64 o,.int .i64 p,.string ⟨n.toArray⟩] 34):=by refine⟨U.1,?_,U.2 _ _ M⟩;rw[q.2.1];simp[Cm]
     have ae:((b++Lib.itoa o)++[32]).length<=i*150+1*30:=by rw[VH,D];simp;omega
     obtain⟨aU,aY,rfl⟩:=bN U.1.own;generalize (b++Lib.itoa o)++[32]=E at*;go_wp2;go_roundw;exact⟨1,E,by omega,rfl,ae,HF⟩;simp[Zk]
    .obtain rfl:j=1:=z;have HR:=Z<|r p (by omega) (by omega) wr b _ q.1 (by omega);have aD:=y.o p (by omega) (by omega);go_wp2_with fail;refine HR.mono ?_;rintro e w2⟨v2,rfl,K,g2⟩;obtain⟨aP,aS,rfl⟩:=bN K.own;have N:=Z K;have M:=Z<|g2 _ _ q.2.2;have B:=K.own;have aw:=K.d.size;generalize G:(b++Lib.itoa p).length=n2 at*;have ar:n2<=b.length+21:=by rw[<-G,VH];omega
     have D:=Z G;go_wp2_with (at_builtin;refine Wv _ rfl (.tmp 28) (.tmp 29) 83 rfl w.heap.size 5 L _ 1 1 underlying83 c.1 c.2.1 c.2.2.1 c.2.2.2 rfl (by decide) _ _ _ rfl (B.alloc _) ⟨w2.heap.size,0,none⟩ 1 1 [.int .u8 32] rfl rfl ?c11 ?c12 ?c13 ?c14 ?c15 ?_)
     case c11=>exact cW w2 [.int .u8 32] 5
     case c12=>intro x hx;simp at hx;subst hx;rfl
     case c13=>unfold Zj;omega
     case c14=>omega
     case c15=>simp;omega
     intro v3 w3 C V aj aH;have U:=N.more (l:=[32]) (qW.alloc qZ<|.cells #[.int .u8 32] 5) (D▸C) V;have HF:Ze<|KI w w3 ((b++Lib.itoa p)++[32]) v3/\((b++Lib.itoa p)++[32])=d++Cm ⟨o,p,n⟩ 2/\w3.heap[J]?=some (.cells #[.int .i64 o,.int .i64 p,.string ⟨n.toArray⟩] 34):=by refine⟨U.1,?_,U.2 _ _ M⟩;rw[q.2.1];simp[Cm]
     have af:((b++Lib.itoa p)++[32]).length<=i*150+2*30:=by rw[VH,D];simp;omega
     obtain⟨aV,aZ,rfl⟩:=bN U.1.own;generalize (b++Lib.itoa p)++[32]=E at*;go_wp2;go_roundw;exact⟨2,E,by omega,rfl,af,HF⟩;simp[Zk]
    obtain rfl:j=2:=z;have HR:=Z<|r ((n.length:Nat):Int) (by omega) (by omega) wr b _ q.1 (by omega);have aF:=y.o ((n.length:Nat):Int) (by omega) (by omega);go_wp2_with fail;refine HR.mono ?_;rintro e w2⟨v2,rfl,K,g2⟩;obtain⟨aQ,aT,rfl⟩:=bN K.own;have N:=Z K;have M:=Z<|g2 _ _ q.2.2;have B:=K.own;have ax:=K.d.size;generalize G:(b++Lib.itoa ((n.length:Nat):Int)).length=n2 at*;have au:n2<=b.length+21:=by rw[<-G,VH];omega
    have D:=Z G;go_wp2_with (at_builtin;refine Wv _ rfl (.tmp 28) (.tmp 29) 83 rfl w.heap.size 5 L _ 1 1 underlying83 c.1 c.2.1 c.2.2.1 c.2.2.2 rfl (by decide) _ _ _ rfl (B.alloc _) ⟨w2.heap.size,0,none⟩ 1 1 [.int .u8 32] rfl rfl ?c21 ?c22 ?c23 ?c24 ?c25 ?_)
    case c21=>exact cW w2 [.int .u8 32] 5
    case c22=>intro x hx;simp at hx;subst hx;rfl
    case c23=>unfold Zj;omega
    case c24=>omega
    case c25=>simp;omega
    intro v3 w3 C V ak aI;have U:=N.more (l:=[32]) (qW.alloc qZ<|.cells #[.int .u8 32] 5) (D▸C) V;have HF:Ze<|KI w w3 ((b++Lib.itoa ((n.length:Nat):Int))++[32]) v3/\((b++Lib.itoa ((n.length:Nat):Int))++[32])=d++Cm ⟨o,p,n⟩ 3/\w3.heap[J]?=some (.cells #[.int .i64 o,.int .i64 p,.string ⟨n.toArray⟩] 34):=by refine⟨U.1,?_,U.2 _ _ M⟩;rw[q.2.1];simp[Cm]
    have ag:((b++Lib.itoa ((n.length:Nat):Int))++[32]).length<=i*150+3*30:=by rw[VH,D];simp;omega
    obtain⟨aW,a0,rfl⟩:=bN U.1.own;generalize (b++Lib.itoa ((n.length:Nat):Int))++[32]=E at*;go_wp2;go_roundw;exact⟨3,E,by omega,rfl,ag,HF⟩;simp[Zk]
   obtain rfl:j=3:=by omega
   have D:=q.2.2;have x2:=bC D 2;simp at x2;have U:=lB D;have z:=q.1.own;have M:=q.1.d.size;go_wp2_with (at_builtin;refine X9 _ rfl (.tmp 32) (.tmp 34) 83 9 rfl w.heap.size 5 L underlying83 underlying9 c.1 c.2.1 c.2.2.1 c.2.2.2 _ _ _ rfl z ⟨n.toArray⟩ rfl ?d3 ?d4 ?d5 ?_)
   case d3=>unfold Zj;have:(⟨n.toArray⟩:Y9).size=n.length:=rfl;omega
   case d4=>first|omega|(have:(⟨n.toArray⟩:Y9).size=n.length:=rfl;omega)|(simp;omega)
   case d5=>first|omega|(have:(⟨n.toArray⟩:Y9).size=n.length:=rfl;omega)
   intro V w3 B E _;have K:=q.1.more (l:=n) qW (by simpa[Lib.strCells,byteCells]using B) E;have N:Ze<|KI w w3 (b++n) V/\b++n=gE (I.take<|i+1):=by refine⟨K.1,?_⟩;rw[R,q.2.1,HA];simp[gE,qt,Cm]
   have G:(b++n).length<=(i+1)*150:=by rw[VH];omega
   obtain⟨aX,a1,rfl⟩:=bN K.1.own;generalize b++n=C at*;go_wp2;go_roundw;exact⟨i+1,C,by omega,by go_num,G,N⟩;simp[Zk];omega
  obtain rfl:i=I.length:=by omega
  have g:Ze<|d=gE I:=by have:=t.2;rwa[Wj]at this
  have b:=Z t.1.d;have j:=FE t.1.own;go_wp2;go_ret;exact⟨by rw[<-g];rfl,b⟩
