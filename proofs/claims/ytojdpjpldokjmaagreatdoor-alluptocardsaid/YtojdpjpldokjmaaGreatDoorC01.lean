import Derived.Test.YtojdpjpldokjmaaGreatDoorProg
import Derived.WalkKit
import Derived.WalkSpells
import Derived.WalkLawsBesides
import Derived.Test.YtojdpjpldokjmaaGreatDoorC00
set_option maxHeartbeats 0
set_option maxRecDepth 100000
set_option linter.all false
namespace Go.Proofs.YtojdpjpldokjmaaGreatDoor
open Go.RowKit Tryz
open Go renaming World->Za,Value->Zb,Calls->Zc,TypeId->Zf,Ending->Zg,results->Zh
open RowKit renaming Below->Zd,Hid->Ze,intOf->Zk
variable{L b:Bool}{M a:Int}{W w x:World}{j k n:Nat}{X:YX}
def oA(h:L=b):Zg.returned (.bool L)=.returned (.bool b):=by rw[h]
def i5{a b:Y9}(h:a=b):Zg.returned (.string a)=.returned (.string b):=by rw[h]
def fQ{k:IntKind}(h:a=M):Zg.returned (.int k a)=.returned (.int k M):=by rw[h]
def lV{c:UInt8}:
 Zc prog 143 #[.int .u8 c.toNat] w λe a=>e=.returned (.bool<|fL c)/\a=w:=by
 go_in;go_wp2;all_goals
  go_ret;refine⟨oA ?_,rfl⟩;rw[WB,qp];simp;omega
def lA(c:UInt8)(w:Za):
 Zc prog 145 #[.int .u8 c.toNat] w λe a=>e=.returned (.bool<|aQ c)/\a=w:=by
 go_in;go_wp2;all_goals
  go_ret;refine⟨oA ?_,rfl⟩;rw[WB,gg];simp;omega
def tN(c:UInt8)(w:Za):
 Zc prog 201 #[.int .u8 c.toNat] w λe a=>e=.returned (.bool<|dV c)/\a=w:=by
 cases hl:fL c;all_goals
  go_in;go_wp2_with (first|(go_at_call 143;apply lV.mono;rintro e a⟨rfl,rfl⟩)|(go_at_call 145;apply(lA _ _).mono;rintro e a⟨rfl,rfl⟩));go_ret;exact⟨oA<|by simp[dV,hl],rfl⟩
def km{c:UInt8}:
 Zc prog 128 #[.int .u8 c.toNat] w λe a=>e=.returned (.bool<|fL c)/\a=w:=by
 go_in;go_wp2;all_goals
  go_ret;refine⟨oA ?_,rfl⟩;rw[WB,qp];simp;omega
def jQ{c:UInt8}:
 Zc prog 129 #[.int .u8 c.toNat] w λe a=>e=.returned (.bool<|aQ c)/\a=w:=by
 go_in;go_wp2;all_goals
  go_ret;refine⟨oA ?_,rfl⟩;rw[WB,gg];simp;omega
@[reducible,go_sem] def qI (x:Int):Zb:=.int .i64 x
@[reducible,go_sem] def qN:Zb:=.slice none 0 0
@[reducible,go_sem] def qP (b:Nat):Zb:=.pointer<|some ⟨b,0,none⟩
@[reducible,go_sem] def qL (b:Nat) (n c:Nat):Zb:=.slice (some ⟨b,0,none⟩) n c
@[reducible,go_sem] def qT (l:YX):Zb:=.string ⟨l.toArray⟩
abbrev qB(w w':Za):Prop:=Zd w.heap.size w w'
def qA{o:Obj}:Zd w.heap.size w<|w.alloc o:=(VM _ _).alloc (VR _) _
def qR{P:Program}{f:FuncId}{a:Y_}{v:Zb}{R:Za->Prop}{Q:Zg->Za->Prop}(h:Zc P f a w λe b=>e=.returned v/\R b)(k:∀b,R b->Q (.returned v) b):Zc P f a w Q:=h.mono λ_ b c=>c.1▸k b c.2
def qS{P:Program}{f:FuncId}{a:Y_}{v:Zb}{Q:Zg->Za->Prop}(h:Zc P f a w λe b=>e=.returned v/\b=w)(k:Q (.returned v) w):Zc P f a w Q:=qR h λ_ e=>e▸k
def qZ:n<=n:=VR n
def qO:0<=n:=Wi n
def qW:Zd n w w:=VM n w
@[reducible,go_sem] def qE (v:Zb) (w:Za) (e:Zg) (w':Za):Prop:=e=.returned v/\w'=w
@[reducible,go_sem] def qF (v:Zb) (w:Za) (e:Zg) (w':Za):Prop:=e=.returned v/\Zd w.heap.size w w'
def Z{p:Prop}(h:p):Ze p:=h
def U{p:Prop}(h:Ze p):p:=h
structure aH(rb:Nat)(w w':Za):Prop where
 os:w'.os=w.os
 tape:w'.tape=w.tape
 output:w'.output=w.output
 size:w.heap.size<=w'.heap.size
 block:∀k,k<w.heap.size->k≠rb->w'.heap[k]?=w.heap[k]?
def aH.refl(a:Nat)(w:Za):aH a w w:=⟨rfl,rfl,rfl,VR _,λ_ _ _=>rfl⟩
def aH.trans(h:aH n w W)(k:aH n W x):aH n w x:=
 ⟨k.os.trans h.os,k.tape.trans h.tape,k.output.trans h.output,Wf h.size k.size,λi hi a=>(k.block i (VT hi h.size) a).trans<|h.block i hi a⟩
def aH.below(h:aH n w W)(k:Zd W.heap.size W x):aH n w x:=
 h.trans ⟨k.os,k.tape,k.output,k.size,λi hi _=>k.block i hi⟩
def aH.set(h:aH n w W)(o:Nat)(v:Zb):aH n w<|W.setCell ⟨n,o,none⟩ v:=
 h.trans ⟨rfl,rfl,rfl,by simp[Za.setCell],λi _ a=>VN _ _ _ _ a⟩
def aH.alloc(h:aH n w W)(o:Obj):aH n w<|W.alloc o:=
 h.trans ⟨rfl,rfl,rfl,by simp,λi hi _=>V2 _ _ _ hi⟩
def aH.drew(h:aH n w W):aH n w W.drew:=⟨h.os,h.tape,h.output,h.size,h.block⟩
def aH.l(h:aH n w W){p:Addr}(b:w.heap.size<=p.block)(v:Zb):aH n w<|W.setCell p v:=
 ⟨h.os,h.tape,h.output,by simp[Za.setCell];exact h.size,λi hi a=>(VN _ _ _ _<|by omega).trans<|h.block i hi a⟩
def aH.q(h:aH n w W){o:Obj}(c:k≠n)(a:w.heap[k]?=some o):W.heap[k]?=some o:=by
 have b:k<w.heap.size:=by
  rcases Wx k w.heap.size with h1|h1
  .exact h1
  rw[Xf h1]at a;cases a
 rw[h.block k b c,a]
def bB(h:Zd n w W){o:Obj}(a:k<n)(b:w.heap[k]?=some o):W.heap[k]?=some o:=by rw[h.block k a,b]
def lB{o:Obj}(a:w.heap[k]?=some o):k<w.heap.size:=by
 rcases Wx k w.heap.size with h1|h1
 .exact h1
 rw[Xf h1]at a;cases a
def bC{C:Y_}{t:Zf}(h:w.heap[k]?=some (.cells C t))(o:Nat):w.cell? ⟨k,o,none⟩=C[o]?:=by unfold Za.cell?;rw[h];simp
def bF{C:Y_}{t:Zf}(h:w.heap[k]?=some (.cells C t))(o:Nat):w.frozen? ⟨k,o,none⟩=false:=by unfold Za.frozen?;rw[h];simp
def bS{C:Y_}{t:Zf}(h:w.heap[k]?=some (.cells C t))(o:Nat)(v:Zb):(w.setCell ⟨k,o,none⟩ v).heap[k]?=some (.cells (C.setIfInBounds o v) t):=by unfold Za.setCell;simp only[Array.getElem?_modify,h,if_true,Option.map_some];rfl
def bY{X:Obj}(h:w.heap[k]?=some X)(a:k≠j)(o:Nat)(v:Zb):(w.setCell ⟨j,o,none⟩ v).heap[k]?=some X:=by rw[VN _ _ _ _ a,h]
def bA{X:Obj}(h:w.heap[k]?=some X)(o:Obj):(w.alloc o).heap[k]?=some X:=by rw[V2 _ _ _<|lB h,h]
def Av{X:Obj}(h:w.heap[k]?=some X):w.drew.heap[k]?=some X:=h
def aM(w:Za)(o:Obj):(w.alloc o).heap[w.heap.size]?=some o:=by show(w.heap.push o)[w.heap.size]?=_;rw[Array.getElem?_push,VG rfl]
def DB(s:Y9)(k:Nat)(h:k<s.size):s.data.toList.take (k+1)=s.data.toList.take k++[s[k]]:=by rw[List.take_succ_eq_append_getElem<|by simpa using h];rfl
def dN(a:qB W w):(∀b o,b<W.heap.size->w.cell? ⟨b,o,none⟩=W.cell? ⟨b,o,none⟩)/\(∀b o,b<W.heap.size->w.frozen? ⟨b,o,none⟩=W.frozen? ⟨b,o,none⟩):=
 ⟨λb o h=>a.cell (p:=⟨b,o,none⟩) h,λb o h=>a.frozen (p:=⟨b,o,none⟩) h⟩
def Ax{c:UInt8}(h:c.toNat=39):c=39:=by apply Wg.1;rw[h];rfl
def Hg(a:YX)(x:UInt8):Zb.string ((⟨a.toArray⟩:Y9)++{data:=#[x]})=qT (a++[x]):=by rw[show(#[x]:Array UInt8)=[x].toArray from rfl,ByteArray.mk_append_mk]
def nY(s:Y9)(a b:Nat):(s.extract a b).data.toList=(s.data.toList.take b).drop a:=by rw[ByteArray.data_extract,Array.toList_extract,List.extract_eq_take_drop,List.drop_take]
def AX(s:Y9)(a:Nat)(b:a<=n)(c:n<s.size):(s.extract a<|n+1).data.toList=(s.extract a n).data.toList++[s[n]]:=by rw[nY,nY,DB s n c,Xb (by simp;omega)]
def ext_nil(s:Y9)(a:Nat):(s.extract a a).data.toList=[]:=by rw[nY];exact Wo (by simp;omega)
def D1(s:Y9)(a:Nat)(h:a<s.size):s.extract a (a+1)=⟨[s[a]].toArray⟩:=by have:=AX s a qZ h;rw[ext_nil]at this;apply ByteArray.ext;apply Xt.1;rw[this];rfl
def PQ(s:Y9)(a:Nat)(h:a+1<s.size):s.extract a (a+2)=⟨[s[a],s[a+1]].toArray⟩:=by have b:=AX s a (by omega) h;rw[D1 s a<|by omega]at b;apply ByteArray.ext;apply Xt.1;rw[b];rfl
def qU(p:UInt8->Bool)(s:Y9)(k e:Nat):Prop:=
 (s.extract k e).data.toList++(aq s e).takeWhile p=(aq s k).takeWhile p/\(aq s e).dropWhile p=(aq s k).dropWhile p
def BS{p:UInt8->Bool}{s:Y9}:qU p s k k:=⟨by rw[ext_nil];rfl,rfl⟩
def Dy{p:UInt8->Bool}{s:Y9}{e:Nat}(g:k<=e)(a:e<s.size)(h:qU p s k e)(d:p s[e]=true):qU p s k<|e+1:=by obtain⟨b,c⟩:=h;rw[cJ s e a,W9 d]at b;rw[cJ s e a,WO d]at c;exact⟨by rw[AX s k g a,<-b];simp,c⟩
def BR{p:UInt8->Bool}{s:Y9}{e:Nat}(h:qU p s k e)(g:¬e<s.size\/∃h:e<s.size,p s[e]=false):
 (s.extract k e).data.toList=(aq s k).takeWhile p/\aq s e=(aq s k).dropWhile p:=by
 obtain⟨a,b⟩:=h;obtain g|⟨c,d⟩:=g
 .rw[gK s e<|by omega]at a b;refine⟨by simpa using a,?_⟩;rw[gK s e<|by omega];exact b
 .rw[cJ s e c]at a b;rw[Yi<|by simp[d]]at a;rw[XH<|by simp[d]]at b;refine⟨by simpa using a,?_⟩;rw[cJ s e c];exact b
def eJ(d:qB w W)(a b c:Zb):qB w<|((W.setCell ⟨w.heap.size,0,none⟩ a).setCell ⟨w.heap.size,1,none⟩ b).setCell ⟨w.heap.size,2,none⟩ c:=
 ((d.setCell qZ _).setCell qZ _).setCell qZ _
def iC(w:Za):Prop:=∀k,k<51->w.cell? ⟨1,k,none⟩=some (qT<|bt k)
def BU{p:UInt8->Bool}{s:Y9}{e:Nat}(h:qU p s 0 e)(b:¬e<s.size\/∃h:e<s.size,p s[e]=false)(c:e<=s.size):((s.data.toList.takeWhile p).length:Int)=e:=by
 have:=(BR h b).1;rw[nY]at this;have a:((s.data.toList.take e).drop 0).length=e:=by simp;omega
 rw[this]at a;rw[<-qm];omega
def G5(p:UInt8->Bool)(f:FuncId)(e:∀(a:Y_)(w:Za),(callFunc f a).run prog w=.ok (.enter f a) w)(i:∀(c:UInt8)(w:Za),Zc prog f #[.int .u8 c.toNat] w<|qE (.bool<|p c) w)(s:Y9)(w:Za)(j:s.size<=1048576):
 Zc prog 200 #[.string s,.func (.func f) #[] #[]] w (qE (qI (s.data.toList.takeWhile p).length) w):=by
 have g:=Z i;go_in;go_wp2
 go_loop [5] (λa=>∃k:Nat,k<=s.size/\a=qI k/\Ze (qU p s 0 k)) (λa=>s.size-(Zk a).toNat)
 exact⟨0,qO,rfl,BS⟩
 case round=>
  obtain⟨k,hk,rfl,d⟩:=hrel;by_cases b:k<s.size
  .cases hp:p s[k]
   .have h:=Z<|BU d (.inr ⟨b,hp⟩) hk;go_wp2_with fail;apply qS<|g _ _;rw[hp];go_wp2;go_ret;exact⟨fQ h.symm,rfl⟩
   have h:Ze<|qU p s 0<|k+1:=Dy qO b d hp;go_wp2_with fail;apply qS<|g _ _;rw[hp];go_wp2;go_round;exact⟨k+1,by omega,by go_num,h⟩;simp[Zk];omega
  have h:=Z<|BU d (.inl b) hk;go_wp2;go_ret;exact⟨fQ h.symm,rfl⟩
def L4(s:Y9)(w:Za)(b:s.size<=1048576):Zc prog 200 #[.string s,.func (.func 201) #[] #[]] w<|qE (qI (s.data.toList.takeWhile dV).length) w:=
 G5 dV 201 (λa w=>by go_simp) tN s w b
def G6(s:Y9)(w:Za)(b:s.size<=1048576):Zc prog 200 #[.string s,.func (.func 145) #[] #[]] w<|qE (qI (s.data.toList.takeWhile aQ).length) w:=
 G5 aQ 145 (λa w=>by go_simp) lA s w b
def NI(g:YX):Int:=match nC g with
 |some i=>((20+i:Nat):Int)
 |none=>0
def F8(g:YX)(k:iC w):
 Zc prog 202 #[qT g] w (qE (qI<|NI g) w):=by
 have d:=Z k;go_in;go_wp2
 go_loop [3] (λa=>∃i:Nat,i<=31/\a=qI ((20+i:Nat):Int)/\Ze (∀j,j<i->bt (20+j)≠g)) (λa=>51-(Zk a).toNat)
 exact⟨0,by omega,rfl,λj c=>by omega⟩
 case round=>
  obtain⟨i,hi,rfl,b⟩:=hrel;by_cases l:i<31
  .have n:=d.o (20+i) (by omega);cases he:(bt (20+i)==g)
   .go_wp2;go_round
    case rel=>exact ⟨i+1,by omega,by go_num,λj c=>by
     by_cases e:j=i
     .subst e;simpa using he
     .exact b j<|by omega⟩
    simp[Zk];omega
   have h:Ze<|NI g=((20+i:Nat):Int):=by show NI g=_;unfold NI nC;rw[o_ qO (by omega) (λj _ c=>b j c)<|by simpa using he]
   go_wp2;go_ret;exact⟨fQ (by rw[h];omega),rfl⟩
  have h:Ze<|NI g=0:=by show NI g=_;unfold NI nC;rw[lX λj _ c=>b j<|by omega]
  go_wp2;go_ret;exact⟨fQ<|by rw[h],rfl⟩
def zY(t:ae):Zb:=.agg #[qI t.k,qI t.n,qT t.s]
def kg(t:ae):zY t=.agg #[qI t.k,qI t.n,qT t.s]:=rfl
def iu:Zb:=.agg #[qI 0,qI 0,.string ⟨#[]⟩]
def fZ(z:ae×YX)(l:YX):Zb:=if z.1.k=99 then .tuple #[iu,qI 0]else .tuple #[zY z.1,qI ((l.length-z.2.length:Nat):Int)]
def lu{z:ae×YX}{l:YX}(h:z.1.k=99):fZ z l=.tuple #[iu,qI 0]:=by unfold fZ;rw[VG h]
def ml{z:ae×YX}(h:z.1.k≠99):fZ z X=.tuple #[zY z.1,qI ((X.length-z.2.length:Nat):Int)]:=by unfold fZ;rw[VF h]
def GX{c:UInt8}(p:4<=k)(n:k<20)(a:(bt k).isPrefixOf (c::X)=true)(b:∀j,4<=j->j<k->(bt j).isPrefixOf (c::X)=false):
 dq (c::X)=(⟨k,0,[]⟩,(c::X).drop (bt k).length):=by
 have hk:k=4\/k=5\/k=6\/k=7\/k=8\/k=9\/k=10\/k=11\/k=12\/k=13\/k=14\/k=15\/k=16\/k=17\/k=18\/k=19:=by omega
 have e:=b 4 (by omega);have g:=b 5 (by omega);have h:=b 6 (by omega);cases X with
 |nil=>obtain rfl|rfl|rfl|rfl|rfl|rfl|rfl|rfl|rfl|rfl|rfl|rfl|rfl|rfl|rfl|rfl:=hk<;>simp[bt,gA,List.isPrefixOf]at a<;>subst a<;>rfl
 |cons d X=>
  obtain rfl|rfl|rfl|rfl|rfl|rfl|rfl|rfl|rfl|rfl|rfl|rfl|rfl|rfl|rfl|rfl:=hk
  .simp[bt,gA,List.isPrefixOf]at a;obtain⟨rfl,rfl⟩:=a;rfl
  .simp[bt,gA,List.isPrefixOf]at a;obtain⟨rfl,rfl⟩:=a;rfl
  .simp[bt,gA,List.isPrefixOf]at a;obtain⟨rfl,rfl⟩:=a;rfl
  all_goals
   have e:=e (by omega);have g:=g (by omega);have h:=h (by omega);simp[bt,gA,List.isPrefixOf]at e g h;have o:eY c.toNat d.toNat=99:=by
    unfold eY;rw[VF,VF,VF]
    .rintro⟨i,l⟩;exact h (Wg.1 i).symm (Wg.1 l).symm
    .rintro⟨i,l⟩;exact g (Wg.1 i).symm (Wg.1 l).symm
    rintro⟨i,l⟩;exact e (Wg.1 i).symm (Wg.1 l).symm
   rw[dq,o,VG rfl];simp[bt,gA,List.isPrefixOf]at a;subst a;rfl
def EB{c:UInt8}(a:∀j,4<=j->j<20->(bt j).isPrefixOf (c::X)=false):(dq<|c::X).1.k=99:=by
 have g:=a 4 (by omega) (by omega);have h:=a 5 (by omega) (by omega);have i:=a 6 (by omega) (by omega);have qD:ey c.toNat=99:=by
  have m:=λj (d:7<=j) (b:j<20)=>a j (by omega) b;have q:∀(j:Nat) (x:UInt8) (n:Nat),x.toNat=n->7<=j->j<20->bt j=[x]->¬c.toNat=n:=λj x n k d b hs e=>by have:=m j d b;rw[hs]at this;simp[List.isPrefixOf]at this;exact this (Wg.1<|e.trans k.symm).symm
  unfold ey;rw[VF<|q 7 40 40 rfl (by omega) (by omega) rfl,VF<|q 8 41 41 rfl (by omega) (by omega) rfl,VF<|q 9 44 44 rfl (by omega) (by omega) rfl,VF<|q 10 46 46 rfl (by omega) (by omega) rfl,VF<|q 11 59 59 rfl (by omega) (by omega) rfl,VF<|q 12 61 61 rfl (by omega) (by omega) rfl,VF<|q 13 60 60 rfl (by omega) (by omega) rfl,VF<|q 14 62 62 rfl (by omega) (by omega) rfl,VF<|q 15 43 43 rfl (by omega) (by omega) rfl,VF<|q 16 45 45 rfl (by omega) (by omega) rfl,VF<|q 17 42 42 rfl (by omega) (by omega) rfl,VF<|q 18 47 47 rfl (by omega) (by omega) rfl,VF<|q 19 37 37 rfl (by omega) (by omega) rfl]
 cases X with
 |nil=>simp only[dq];exact qD
 |cons d X=>
  have l:eY c.toNat d.toNat=99:=by
   simp[bt,gA,List.isPrefixOf]at g h i;unfold eY;rw[VF,VF,VF]
   .rintro⟨b,k⟩;exact i (Wg.1 b).symm (Wg.1 k).symm
   .rintro⟨b,k⟩;exact h (Wg.1 b).symm (Wg.1 k).symm
   rintro⟨b,k⟩;exact g (Wg.1 b).symm (Wg.1 k).symm
  rw[dq,l,VG rfl];exact qD
structure lL:Prop where
 pre:∀(s p:Y9) (w:Za),Zc prog 206 #[.string s,.string p] w<|qE (.bool<|p.data.toList.isPrefixOf s.data.toList) w
 upper:∀(s:Y9) (w:Za),s.size<=1048576->(∀c∈s.data.toList,c.toNat<128)->Zc prog 203 #[.string s] w (qF (qT<|s.data.toList.map fU) w)
 trim:∀(s:Y9) (w:Za),Zc prog 142 #[.string s,.string ⟨#[32,9,10]⟩] w<|qF (qT<|s.data.toList.dropWhile bW) w
 clone:∀(s:Y9) (w:Za),s.size<=1048576->Zc prog 204 #[.string s] w (qF (.string s) w)
 atoi:∀(s:Y9) (w:Za),s.size<=1048576->(∀c∈s.data.toList,aQ c=true)->s.data.toList≠[]->dK 0 s.data.toList<=9223372036854775807->Zc prog 205 #[.string s] w (qF (.tuple #[qI<|dK 0 s.data.toList,.nilIface]) w)
 a:∀(s:Y9) (w:Za),s.size<=1048576->(∀c∈s.data.toList,aQ c=true)->s.data.toList≠[]->9223372036854775807<dK 0 s.data.toList->(∃te pe,w.cell? ⟨8,0,none⟩=some (.iface te pe))->Zc prog 205 #[.string s] w λe w'=>∃n te pe,e=.returned (.tuple #[qI n,.iface te pe])/\qB w w'
def lt_of_cell{v:Zb}(h:w.cell? ⟨n,k,none⟩=some v):n<w.heap.size:=by
 obtain a|a:=Wx n w.heap.size
 .exact a
 exfalso;unfold Za.cell? at h;rw[Xf a]at h;simp at h
def iC.lt(h:iC w): 1<w.heap.size:=lt_of_cell<|h 0<|by omega
def OG(X:lL)(c:UInt8)(r:YX)(t:iC w):
 Zc prog 148 #[.string ⟨(c::r).toArray⟩] w λe h=>e=.returned (fZ (dq<|c::r)<|c::r)/\Zd w.heap.size w h:=by
 have n:=Z t;go_in;go_wp2
 go_loop [4] (λa=>∃i:Nat,4<=i/\i<=20/\a=.int .i64 i/\Ze (∀j,4<=j->j<i->(bt j).isPrefixOf (c::r)=false)) (λa=>20-(Zk a).toNat)
 exact⟨4,by omega,by omega,rfl,λj b o=>by omega⟩
 case round=>
  obtain⟨i,q,hi,rfl,d⟩:=hrel;by_cases g:i<20
  .have u:=n.o i (by omega);have y:=n.lt;have k:Ze (∀w,Zc prog 206 #[.string ⟨(c::r).toArray⟩,.string ⟨(bt i).toArray⟩] w λe h=>e=.returned (.bool<|(bt i).isPrefixOf<|c::r)/\h=w):=λw=>(Z X.pre) _ _ w;cases hp:(bt i).isPrefixOf (c::r)
   .go_wp2_with fail;apply qS<|k _;rw[hp];go_wp2;go_round
    case rel=>exact ⟨i+1,by omega,by omega,by go_num,λj b o=>by
     by_cases e:j=i
     .subst e;exact hp
     .exact d j b<|by omega⟩
    simp[Zk];omega
   have hs:=GX q g hp d;have p:Ze<|fZ (dq<|c::r) (c::r)=.tuple #[.agg #[.int .i64 i,.int .i64 0,.string ⟨#[]⟩],.int .i64 (bt i).length]:=by unfold Ze;rw[ml (by rw[hs];show i≠99;omega),hs,kg];have x:(bt i).length<=(c::r).length:=(List.isPrefixOf_iff_prefix.1 hp).length_le;simp only[Wp];rw[show(c::r).length-((c::r).length-(bt i).length)=(bt i).length by omega]
   go_wp2_with fail;apply qS<|k _;rw[hp];go_wp2;go_region;go_wp2_with refine VI (v:=.tuple #[.agg #[.int .i64 i,.int .i64 0,.string ⟨#[]⟩],.int .i64 (bt i).length]) ?_ rfl ⟨by rw[p],((VM _ _).alloc (VR _) _).drew⟩;simp[Zh,results148,go_sem]
  have k:=Z<|lu (l:=c::r)<|EB λj b o=>d j b (by omega);go_wp2_with refine VI (v:=.tuple #[iu,.int .i64 0]) ?_ rfl ⟨by rw[k],(VM _ _).alloc (VR _) _⟩;simp[Zh,results148,go_sem,iu]
def OU(p:UInt8->Bool):∀l:YX,(l.takeWhile p).length<=l.length
 |[]=>qZ
 |c::r=>by rw[Yc];split;simp;exact OU p r;simp
def Rg(p:UInt8->Bool)(l:YX):(l.takeWhile p).length+(l.dropWhile p).length=l.length:=by rw[<-VH,List.takeWhile_append_dropWhile]
def KH(p:UInt8->Bool):∀l:YX,l.take (l.takeWhile p).length=l.takeWhile p
 |[]=>rfl
 |c::r=>by
  rw[Yc];split
  .simp[KH p r]
  rfl
def Nk(p:UInt8->Bool)(s:Y9):(s.extract 0 (s.data.toList.takeWhile p).length).data.toList=s.data.toList.takeWhile p:=by rw[nY,WG,KH]
def lJ(w:Za):Prop:=∃te pe,w.cell? ⟨8,0,none⟩=some (.iface te pe)
def lJ.alloc(h:lJ w)(o:Obj):lJ<|w.alloc o:=by obtain⟨c,b,a⟩:=h;exact⟨c,b,by rw[WK (hn:=lt_of_cell a)];exact a⟩
def I9(X:lL)(s:Y9)(w:Za)(q:s.size<=1048576)(y:(s.data.toList.takeWhile aQ)≠[])(B:lJ w):
 Zc prog 146 #[.string s] w λe D=>e=.returned (fZ (ed<|s.data.toList.takeWhile aQ,s.data.toList.dropWhile aQ) s.data.toList)/\qB w D:=by
 have l:=Z<|G6 s;have F:(s.data.toList.takeWhile aQ).length<=s.size:=by simpa using OU aQ s.data.toList
 have b:=Z<|Nk aQ s;have r:=Z<|Rg aQ s.data.toList;have k:Ze (∀c∈s.data.toList.takeWhile aQ,aQ c=true):=λc z=>pM z;generalize A:s.data.toList.takeWhile aQ=a at*;generalize C:s.data.toList.dropWhile aQ=i at*;have o:=Z X;have t:=Z B;have j:=Z y;have h:(s.extract 0 a.length).size<=1048576:=by rw[ByteArray.size_extract];omega
 have d:=Z h;by_cases g:9223372036854775807<dK 0 a
 .have u:Ze<|fZ (ed a,i) s.data.toList=.tuple #[iu,qI 0]:=lu (by unfold ed;rw[VG g];rfl);have x:=Z g;go_in;go_wp2_with apply(l _ q).mono;rintro e I⟨rfl,rfl⟩;go_wp2_with fail;refine(o.a _ _ d (by rw[b];exact k) (by rw[b];exact j) (by rw[b];exact x)<|lJ.alloc t _).mono ?_;rintro e J⟨n,H,G,rfl,p⟩;obtain⟨c1,E⟩:=dN p;go_wp2_with refine VI (v:=.tuple #[iu,qI 0]) ?_ rfl ⟨by rw[u],?_⟩
  .simp[Zh,results146,go_sem,iu,c1]
  exact eJ (qA.trans<|p.mono<|by simp) _ _ _
 ·have p:Ze<|fZ (ed a,i) s.data.toList=.tuple #[.agg #[qI 2,qI<|dK 0 a,.string ⟨#[]⟩],qI a.length]:=by
   have e:ed a=⟨2,dK 0 a,[]⟩:=by unfold ed;rw[VF g]
   unfold Ze;rw[ml (by rw[e];show(2:Nat)≠99;decide),e,kg];simp only;rw[show s.data.toList.length-i.length=a.length by have:=r.o;omega];rfl
  have u:=Z g;go_in;go_wp2_with fail;apply(l _ q).mono;rintro e E⟨rfl,rfl⟩;go_wp2_with fail;refine(o.atoi _ _ d (by rw[b];exact k) (by rw[b];exact j) (by rw[b];have:=u.o;omega)).mono ?_;rw[b];rintro e G⟨rfl,n⟩;obtain⟨c1,x⟩:=dN n;go_wp2_with refine VI (v:=.tuple #[.agg #[qI 2,qI<|dK 0 a,.string ⟨#[]⟩],qI a.length]) ?_ rfl ⟨by rw[p],?_⟩
  .simp[Zh,results146,go_sem,c1]
  exact eJ (qA.trans<|n.mono<|by simp) _ _ _
def ML{c:UInt8}(h:dV c=true):c.toNat<128:=by
 unfold dV at h;simp only[Yz]at h;obtain h|h:=h
 .have:=(qp c).1 h;omega
 have:=(gg c).1 h;omega
def iC.below(h:iC w)(a:qB w W):iC W:=λk hk=>by rw[a.cell (p:=⟨1,k,none⟩) h.lt];exact h k hk
def lJ.below(h:lJ w)(b:qB w W):lJ W:=by obtain⟨d,c,a⟩:=h;exact⟨d,c,by rw[b.cell (p:=⟨8,0,none⟩)<|lt_of_cell a];exact a⟩
def Mm(X:lL)(s:Y9)(w:Za)(B:s.size<=1048576)(z:iC w):
 Zc prog 144 #[.string s] w λe D=>e=.returned (fZ (da<|s.data.toList.takeWhile dV,s.data.toList.dropWhile dV) s.data.toList)/\qB w D:=by
 have H:(s.data.toList.takeWhile dV).length<=s.size:=by simpa using OU dV s.data.toList
 have j:=Z<|Nk dV s;have n:=Z<|Rg dV s.data.toList;have q:Ze (∀c∈s.data.toList.takeWhile dV,c.toNat<128):=λc x=>ML<|pM x;generalize y:s.data.toList.takeWhile dV=a at*;generalize A:s.data.toList.dropWhile dV=h at*;have o:=Z X;have p:=Z z;have l:(s.extract 0 a.length).size<=1048576:=by rw[ByteArray.size_extract];omega
 have b:=Z l;go_in;go_wp2_with apply(U (Z<|L4 s) _ B).mono;rintro e I⟨rfl,rfl⟩;go_wp2_with fail;refine(o.o.upper _ _ b.o (by rw[j.o];exact q.o)).mono ?_;rw[j.o];rintro e J⟨rfl,k⟩;obtain⟨c1,F⟩:=dN k;have HB:=Z<|((VM w.heap.size w).alloc (VR _) _).trans<|k.mono (by simp);go_wp2_with apply(F8 (a.map fU)<|p.o.below HB.o).mono;rintro e E⟨rfl,rfl⟩;cases hk:nC (a.map fU)with
 |some i=>
  have hi:=lY hk;have e:da a=⟨20+i,0,[]⟩:=by unfold da;rw[hk]
  have g:Ze<|fZ (da a,h) s.data.toList=.tuple #[.agg #[qI ((20+i:Nat):Int),qI 0,.string ⟨#[]⟩],qI a.length]:=by unfold Ze;rw[ml (by rw[e];show 20+i≠99;omega),e,kg];simp only;rw[show s.data.toList.length-h.length=a.length by have:=n.o;omega]
  have d:NI (a.map fU)=((20+i:Nat):Int):=by unfold NI;rw[hk]
  rw[d];have r:i<31:=by omega
  go_wp2_with refine VI (v:=.tuple #[.agg #[qI ((20+i:Nat):Int),qI 0,.string ⟨#[]⟩],qI a.length]) ?_ rfl ⟨by rw[g.o],?_⟩
  .simp[Zh,results144,go_sem,c1]
  exact eJ HB.o _ _ _
 |none=>
  have i:NI (a.map fU)=0:=by unfold NI;rw[hk]
  rw[i];by_cases d:10<a.length
  .have g:Ze<|fZ (da a,h) s.data.toList=.tuple #[iu,qI 0]:=lu (by unfold da;rw[hk];simp only;rw[VG d];rfl);go_wp2_with refine VI (v:=.tuple #[iu,qI 0]) ?_ rfl ⟨by rw[g.o],?_⟩
   .simp[Zh,results144,go_sem,iu,c1]
   exact eJ HB.o _ _ _
  have t:Ze<|fZ (da a,h) s.data.toList=.tuple #[.agg #[qI 1,qI 0,qT a],qI a.length]:=by
   have e:da a=⟨1,0,a⟩:=by unfold da;rw[hk];simp only;rw[VF d]
   unfold Ze;rw[ml (by rw[e];show(1:Nat)≠99;decide),e,kg];simp only;rw[show s.data.toList.length-h.length=a.length by have:=n.o;omega];rfl
  have r:Ze<|s.extract 0 a.length=⟨a.toArray⟩:=by unfold Ze;apply ByteArray.ext;apply Xt.1;rw[j.o]
  go_wp2_with apply(o.o.clone _ _ b.o).mono;rw[r.o];rintro e K⟨rfl,g⟩;have C:w.heap.size<E.heap.size:=by have:=HB.o.size;have u:=(Z k.size).o;simp at u;omega
  obtain⟨c4,G⟩:=dN g;go_wp2_with refine VI (v:=.tuple #[.agg #[qI 1,qI 0,qT a],qI a.length]) ?_ rfl ⟨by rw[t.o],?_⟩
  .simp[Zh,results144,go_sem,c4,c1,C]
  exact eJ (Z<|HB.o.trans<|g.mono<|by omega).o _ _ _
