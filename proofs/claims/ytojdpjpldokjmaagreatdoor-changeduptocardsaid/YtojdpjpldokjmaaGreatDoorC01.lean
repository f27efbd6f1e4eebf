import Derived.Test.YtojdpjpldokjmaaGreatDoorProg
import Derived.WalkKit
import Derived.WalkSpells
import Derived.WalkLawsBesides
import Derived.Test.YtojdpjpldokjmaaGreatDoorC00
set_option maxHeartbeats 0
set_option maxRecDepth 100000
set_option linter.all false
namespace Go.Proofs.YtojdpjpldokjmaaGreatDoor
open Go.RowKit Tryz
open Go renaming World->Za,Value->Zb,Calls->Zc,TypeId->Zf,Ending->Zg,results->Zh
open RowKit renaming Below->Zd,Hid->Ze,intOf->Zk
variable{L b:Bool}{M a:Int}{W w x:World}{i j k n:Nat}{X:YX}
def oA(h:L=b):Zg.returned (.bool L)=.returned (.bool b):=by rw[h]
def i5{a b:Y9}(h:a=b):Zg.returned (.string a)=.returned (.string b):=by rw[h]
def fQ{k:IntKind}(h:a=M):Zg.returned (.int k a)=.returned (.int k M):=by rw[h]
def lV{c:UInt8}:
 Zc prog 143 #[.int .u8 c.toNat] w λe a=>e=.returned (.bool<|fL c)/\a=w:=by
 go_in;go_wp2;all_goals
  go_ret;refine⟨oA ?_,rfl⟩;rw[WB,qp];simp;omega
def lA(c:UInt8)(w:Za):
 Zc prog 145 #[.int .u8 c.toNat] w λe a=>e=.returned (.bool<|aQ c)/\a=w:=by
 go_in;go_wp2;all_goals
  go_ret;refine⟨oA ?_,rfl⟩;rw[WB,gg];simp;omega
def tN(c:UInt8)(w:Za):
 Zc prog 201 #[.int .u8 c.toNat] w λe a=>e=.returned (.bool<|dV c)/\a=w:=by
 cases hl:fL c;all_goals
  go_in;go_wp2_with (first|(go_at_call 143;apply lV.mono;rintro e a⟨rfl,rfl⟩)|(go_at_call 145;apply(lA _ _).mono;rintro e a⟨rfl,rfl⟩));go_ret;exact⟨oA<|by simp[dV,hl],rfl⟩
def km{c:UInt8}:
 Zc prog 128 #[.int .u8 c.toNat] w λe a=>e=.returned (.bool<|fL c)/\a=w:=by
 go_in;go_wp2;all_goals
  go_ret;refine⟨oA ?_,rfl⟩;rw[WB,qp];simp;omega
def jQ{c:UInt8}:
 Zc prog 129 #[.int .u8 c.toNat] w λe a=>e=.returned (.bool<|aQ c)/\a=w:=by
 go_in;go_wp2;all_goals
  go_ret;refine⟨oA ?_,rfl⟩;rw[WB,gg];simp;omega
@[reducible,go_sem] def qI (x:Int):Zb:=.int .i64 x
@[reducible,go_sem] def qN:Zb:=.slice none 0 0
@[reducible,go_sem] def qP (b:Nat):Zb:=.pointer<|some ⟨b,0,none⟩
@[reducible,go_sem] def qL (b:Nat) (n c:Nat):Zb:=.slice (some ⟨b,0,none⟩) n c
@[reducible,go_sem] def qT (l:YX):Zb:=.string ⟨l.toArray⟩
abbrev qB(w w':Za):Prop:=Zd w.heap.size w w'
def qA{o:Obj}:Zd w.heap.size w<|w.alloc o:=(VM _ _).alloc (VR _) _
def qR{P:Program}{f:FuncId}{a:Y_}{v:Zb}{R:Za->Prop}{Q:Zg->Za->Prop}(h:Zc P f a w λe b=>e=.returned v/\R b)(k:∀b,R b->Q (.returned v) b):Zc P f a w Q:=h.mono λ_ b c=>c.1▸k b c.2
def qS{P:Program}{f:FuncId}{a:Y_}{v:Zb}{Q:Zg->Za->Prop}(h:Zc P f a w λe b=>e=.returned v/\b=w)(k:Q (.returned v) w):Zc P f a w Q:=qR h λ_ e=>e▸k
def qZ:n<=n:=VR n
def qO:0<=n:=Wi n
def qW:Zd n w w:=VM n w
@[reducible,go_sem] def qE (v:Zb) (w:Za) (e:Zg) (w':Za):Prop:=e=.returned v/\w'=w
@[reducible,go_sem] def qF (v:Zb) (w:Za) (e:Zg) (w':Za):Prop:=e=.returned v/\Zd w.heap.size w w'
def Z{p:Prop}(h:p):Ze p:=h
def U{p:Prop}(h:Ze p):p:=h
structure aH(rb:Nat)(w w':Za):Prop where
 os:w'.os=w.os
 tape:w'.tape=w.tape
 output:w'.output=w.output
 size:w.heap.size<=w'.heap.size
 block:∀k,k<w.heap.size->k≠rb->w'.heap[k]?=w.heap[k]?
def aH.refl(a:Nat)(w:Za):aH a w w:=⟨rfl,rfl,rfl,VR _,λ_ _ _=>rfl⟩
def aH.trans(h:aH n w W)(k:aH n W x):aH n w x:=
 ⟨k.os.trans h.os,k.tape.trans h.tape,k.output.trans h.output,Wf h.size k.size,λi hi a=>(k.block i (VT hi h.size) a).trans<|h.block i hi a⟩
def aH.below(h:aH n w W)(k:Zd W.heap.size W x):aH n w x:=
 h.trans ⟨k.os,k.tape,k.output,k.size,λi hi _=>k.block i hi⟩
def aH.set(h:aH n w W)(o:Nat)(v:Zb):aH n w<|W.setCell ⟨n,o,none⟩ v:=
 h.trans ⟨rfl,rfl,rfl,by simp[Za.setCell],λi _ a=>VN _ _ _ _ a⟩
def aH.alloc(h:aH n w W)(o:Obj):aH n w<|W.alloc o:=
 h.trans ⟨rfl,rfl,rfl,by simp,λi hi _=>V2 _ _ _ hi⟩
def aH.drew(h:aH n w W):aH n w W.drew:=⟨h.os,h.tape,h.output,h.size,h.block⟩
def aH.l(h:aH n w W){p:Addr}(b:w.heap.size<=p.block)(v:Zb):aH n w<|W.setCell p v:=
 ⟨h.os,h.tape,h.output,by simp[Za.setCell];exact h.size,λi hi a=>(VN _ _ _ _<|by omega).trans<|h.block i hi a⟩
def aH.g(h:aH n w W){o:Obj}(c:k≠n)(a:w.heap[k]?=some o):W.heap[k]?=some o:=by
 have b:k<w.heap.size:=by
  rcases Wx k w.heap.size with h1|h1
  .exact h1
  rw[Xf h1]at a;cases a
 rw[h.block k b c,a]
def bB(h:Zd n w W){o:Obj}(a:k<n)(b:w.heap[k]?=some o):W.heap[k]?=some o:=by rw[h.block k a,b]
def lB{o:Obj}(a:w.heap[k]?=some o):k<w.heap.size:=by
 rcases Wx k w.heap.size with h1|h1
 .exact h1
 rw[Xf h1]at a;cases a
def bC{C:Y_}{t:Zf}(h:w.heap[k]?=some (.cells C t))(o:Nat):w.cell? ⟨k,o,none⟩=C[o]?:=by unfold Za.cell?;rw[h];simp
def bF{C:Y_}{t:Zf}(h:w.heap[k]?=some (.cells C t))(o:Nat):w.frozen? ⟨k,o,none⟩=false:=by unfold Za.frozen?;rw[h];simp
def bS{C:Y_}{t:Zf}(h:w.heap[k]?=some (.cells C t))(o:Nat)(v:Zb):(w.setCell ⟨k,o,none⟩ v).heap[k]?=some (.cells (C.setIfInBounds o v) t):=by unfold Za.setCell;simp only[Array.getElem?_modify,h,if_true,Option.map_some];rfl
def bY{X:Obj}(h:w.heap[k]?=some X)(a:k≠j)(o:Nat)(v:Zb):(w.setCell ⟨j,o,none⟩ v).heap[k]?=some X:=by rw[VN _ _ _ _ a,h]
def bA{X:Obj}(h:w.heap[k]?=some X)(o:Obj):(w.alloc o).heap[k]?=some X:=by rw[V2 _ _ _<|lB h,h]
def Av{X:Obj}(h:w.heap[k]?=some X):w.drew.heap[k]?=some X:=h
def aM(w:Za)(o:Obj):(w.alloc o).heap[w.heap.size]?=some o:=by show(w.heap.push o)[w.heap.size]?=_;rw[Array.getElem?_push,VG rfl]
def DB(s:Y9)(k:Nat)(h:k<s.size):s.data.toList.take (k+1)=s.data.toList.take k++[s[k]]:=by rw[List.take_succ_eq_append_getElem<|by simpa using h];rfl
def dN(a:qB W w):(∀b o,b<W.heap.size->w.cell? ⟨b,o,none⟩=W.cell? ⟨b,o,none⟩)/\(∀b o,b<W.heap.size->w.frozen? ⟨b,o,none⟩=W.frozen? ⟨b,o,none⟩):=
 ⟨λb o h=>a.cell (p:=⟨b,o,none⟩) h,λb o h=>a.frozen (p:=⟨b,o,none⟩) h⟩
def Ax{c:UInt8}(h:c.toNat=39):c=39:=by apply Wg.1;rw[h];rfl
def Hg(a:YX)(x:UInt8):Zb.string ((⟨a.toArray⟩:Y9)++{data:=#[x]})=qT (a++[x]):=by rw[show(#[x]:Array UInt8)=[x].toArray from rfl,ByteArray.mk_append_mk]
def nY(s:Y9)(a b:Nat):(s.extract a b).data.toList=(s.data.toList.take b).drop a:=by rw[ByteArray.data_extract,Array.toList_extract,List.extract_eq_take_drop,List.drop_take]
def AX(s:Y9)(a:Nat)(b:a<=n)(c:n<s.size):(s.extract a<|n+1).data.toList=(s.extract a n).data.toList++[s[n]]:=by rw[nY,nY,DB s n c,Xb (by simp;omega)]
def ext_nil(s:Y9)(a:Nat):(s.extract a a).data.toList=[]:=by rw[nY];exact Wo (by simp;omega)
def D1(s:Y9)(a:Nat)(h:a<s.size):s.extract a (a+1)=⟨[s[a]].toArray⟩:=by have:=AX s a qZ h;rw[ext_nil]at this;apply ByteArray.ext;apply Xt.1;rw[this];rfl
def PQ(s:Y9)(a:Nat)(h:a+1<s.size):s.extract a (a+2)=⟨[s[a],s[a+1]].toArray⟩:=by have b:=AX s a (by omega) h;rw[D1 s a<|by omega]at b;apply ByteArray.ext;apply Xt.1;rw[b];rfl
def qU(p:UInt8->Bool)(s:Y9)(k e:Nat):Prop:=
 (s.extract k e).data.toList++(aq s e).takeWhile p=(aq s k).takeWhile p/\(aq s e).dropWhile p=(aq s k).dropWhile p
def BS{p:UInt8->Bool}{s:Y9}:qU p s k k:=⟨by rw[ext_nil];rfl,rfl⟩
def Dy{p:UInt8->Bool}{s:Y9}{e:Nat}(g:k<=e)(a:e<s.size)(h:qU p s k e)(d:p s[e]=true):qU p s k<|e+1:=by obtain⟨b,c⟩:=h;rw[cJ s e a,W9 d]at b;rw[cJ s e a,WO d]at c;exact⟨by rw[AX s k g a,<-b];simp,c⟩
def BR{p:UInt8->Bool}{s:Y9}{e:Nat}(h:qU p s k e)(g:¬e<s.size\/∃h:e<s.size,p s[e]=false):
 (s.extract k e).data.toList=(aq s k).takeWhile p/\aq s e=(aq s k).dropWhile p:=by
 obtain⟨a,b⟩:=h;obtain g|⟨c,d⟩:=g
 .rw[gK s e<|by omega]at a b;refine⟨by simpa using a,?_⟩;rw[gK s e<|by omega];exact b
 .rw[cJ s e c]at a b;rw[Yi<|by simp[d]]at a;rw[XH<|by simp[d]]at b;refine⟨by simpa using a,?_⟩;rw[cJ s e c];exact b
def eJ(d:qB w W)(a b c:Zb):qB w<|((W.setCell ⟨w.heap.size,0,none⟩ a).setCell ⟨w.heap.size,1,none⟩ b).setCell ⟨w.heap.size,2,none⟩ c:=
 ((d.setCell qZ _).setCell qZ _).setCell qZ _
def iC(w:Za):Prop:=∀k,k<51->w.cell? ⟨1,k,none⟩=some (qT<|bt k)
def BU{p:UInt8->Bool}{s:Y9}{e:Nat}(h:qU p s 0 e)(b:¬e<s.size\/∃h:e<s.size,p s[e]=false)(c:e<=s.size):((s.data.toList.takeWhile p).length:Int)=e:=by
 have:=(BR h b).1;rw[nY]at this;have a:((s.data.toList.take e).drop 0).length=e:=by simp;omega
 rw[this]at a;rw[<-qm];omega
def G5(p:UInt8->Bool)(f:FuncId)(e:∀(a:Y_)(w:Za),(callFunc f a).run prog w=.ok (.enter f a) w)(i:∀(c:UInt8)(w:Za),Zc prog f #[.int .u8 c.toNat] w<|qE (.bool<|p c) w)(s:Y9)(w:Za)(j:s.size<=1048576):
 Zc prog 200 #[.string s,.func (.func f) #[] #[]] w (qE (qI (s.data.toList.takeWhile p).length) w):=by
 have g:=Z i;go_in;go_wp2
 go_loop [5] (λa=>∃k:Nat,k<=s.size/\a=qI k/\Ze (qU p s 0 k)) (λa=>s.size-(Zk a).toNat)
 exact⟨0,qO,rfl,BS⟩
 case round=>
  obtain⟨k,hk,rfl,d⟩:=hrel;by_cases b:k<s.size
  .cases hp:p s[k]
   .have h:=Z<|BU d (.inr ⟨b,hp⟩) hk;go_wp2_with fail;apply qS<|g _ _;rw[hp];go_wp2;go_ret;exact⟨fQ h.symm,rfl⟩
   have h:Ze<|qU p s 0<|k+1:=Dy qO b d hp;go_wp2_with fail;apply qS<|g _ _;rw[hp];go_wp2;go_round;exact⟨k+1,by omega,by go_num,h⟩;simp[Zk];omega
  have h:=Z<|BU d (.inl b) hk;go_wp2;go_ret;exact⟨fQ h.symm,rfl⟩
def L4(s:Y9)(w:Za)(b:s.size<=1048576):Zc prog 200 #[.string s,.func (.func 201) #[] #[]] w<|qE (qI (s.data.toList.takeWhile dV).length) w:=
 G5 dV 201 (λa w=>by go_simp) tN s w b
def G6(s:Y9)(w:Za)(b:s.size<=1048576):Zc prog 200 #[.string s,.func (.func 145) #[] #[]] w<|qE (qI (s.data.toList.takeWhile aQ).length) w:=
 G5 aQ 145 (λa w=>by go_simp) lA s w b
def NI(g:YX):Int:=match nC g with
 |some i=>((20+i:Nat):Int)
 |none=>0
def F8(g:YX)(k:iC w):
 Zc prog 202 #[qT g] w (qE (qI<|NI g) w):=by
 have d:=Z k;go_in;go_wp2
 go_loop [3] (λa=>∃i:Nat,i<=31/\a=qI ((20+i:Nat):Int)/\Ze (∀j,j<i->bt (20+j)≠g)) (λa=>51-(Zk a).toNat)
 exact⟨0,by omega,rfl,λj c=>by omega⟩
 case round=>
  obtain⟨i,hi,rfl,b⟩:=hrel;by_cases l:i<31
  .have n:=d.o (20+i) (by omega);cases he:(bt (20+i)==g)
   .go_wp2;go_round
    case rel=>exact ⟨i+1,by omega,by go_num,λj c=>by
     by_cases e:j=i
     .subst e;simpa using he
     .exact b j<|by omega⟩
    simp[Zk];omega
   have h:Ze<|NI g=((20+i:Nat):Int):=by show NI g=_;unfold NI nC;rw[o_ qO (by omega) (λj _ c=>b j c)<|by simpa using he]
   go_wp2;go_ret;exact⟨fQ (by rw[h];omega),rfl⟩
  have h:Ze<|NI g=0:=by show NI g=_;unfold NI nC;rw[lX λj _ c=>b j<|by omega]
  go_wp2;go_ret;exact⟨fQ<|by rw[h],rfl⟩
def zY(t:ae):Zb:=.agg #[qI t.k,qI t.n,qT t.s]
def kg(t:ae):zY t=.agg #[qI t.k,qI t.n,qT t.s]:=rfl
def iu:Zb:=.agg #[qI 0,qI 0,.string ⟨#[]⟩]
def fZ(z:ae×YX)(l:YX):Zb:=if z.1.k=99 then .tuple #[iu,qI 0]else .tuple #[zY z.1,qI ((l.length-z.2.length:Nat):Int)]
def lu{z:ae×YX}{l:YX}(h:z.1.k=99):fZ z l=.tuple #[iu,qI 0]:=by unfold fZ;rw[VG h]
def ml{z:ae×YX}(h:z.1.k≠99):fZ z X=.tuple #[zY z.1,qI ((X.length-z.2.length:Nat):Int)]:=by unfold fZ;rw[VF h]
def GX{c:UInt8}(p:4<=k)(n:k<20)(a:(bt k).isPrefixOf (c::X)=true)(b:∀j,4<=j->j<k->(bt j).isPrefixOf (c::X)=false):
 dq (c::X)=(⟨k,0,[]⟩,(c::X).drop (bt k).length):=by
 have hk:k=4\/k=5\/k=6\/k=7\/k=8\/k=9\/k=10\/k=11\/k=12\/k=13\/k=14\/k=15\/k=16\/k=17\/k=18\/k=19:=by omega
 have e:=b 4 (by omega);have g:=b 5 (by omega);have h:=b 6 (by omega);cases X with
 |nil=>obtain rfl|rfl|rfl|rfl|rfl|rfl|rfl|rfl|rfl|rfl|rfl|rfl|rfl|rfl|rfl|rfl:=hk<;>simp[bt,gA,List.isPrefixOf]at a<;>subst a<;>rfl
 |cons d X=>
  obtain rfl|rfl|rfl|rfl|rfl|rfl|rfl|rfl|rfl|rfl|rfl|rfl|rfl|rfl|rfl|rfl:=hk
  .simp[bt,gA,List.isPrefixOf]at a;obtain⟨rfl,rfl⟩:=a;rfl
  .simp[bt,gA,List.isPrefixOf]at a;obtain⟨rfl,rfl⟩:=a;rfl
  .simp[bt,gA,List.isPrefixOf]at a;obtain⟨rfl,rfl⟩:=a;rfl
  all_goals
   have e:=e (by omega);have g:=g (by omega);have h:=h (by omega);simp[bt,gA,List.isPrefixOf]at e g h;have o:eY c.toNat d.toNat=99:=by
    unfold eY;rw[VF,VF,VF]
    .rintro⟨i,l⟩;exact h (Wg.1 i).symm (Wg.1 l).symm
    .rintro⟨i,l⟩;exact g (Wg.1 i).symm (Wg.1 l).symm
    rintro⟨i,l⟩;exact e (Wg.1 i).symm (Wg.1 l).symm
   rw[dq,o,VG rfl];simp[bt,gA,List.isPrefixOf]at a;subst a;rfl
def EB{c:UInt8}(a:∀j,4<=j->j<20->(bt j).isPrefixOf (c::X)=false):(dq<|c::X).1.k=99:=by
 have g:=a 4 (by omega) (by omega);have h:=a 5 (by omega) (by omega);have i:=a 6 (by omega) (by omega);have qD:ey c.toNat=99:=by
  have m:=λj (d:7<=j) (b:j<20)=>a j (by omega) b;have q:∀(j:Nat) (x:UInt8) (n:Nat),x.toNat=n->7<=j->j<20->bt j=[x]->¬c.toNat=n:=λj x n k d b hs e=>by have:=m j d b;rw[hs]at this;simp[List.isPrefixOf]at this;exact this (Wg.1<|e.trans k.symm).symm
  unfold ey;rw[VF<|q 7 40 40 rfl (by omega) (by omega) rfl,VF<|q 8 41 41 rfl (by omega) (by omega) rfl,VF<|q 9 44 44 rfl (by omega) (by omega) rfl,VF<|q 10 46 46 rfl (by omega) (by omega) rfl,VF<|q 11 59 59 rfl (by omega) (by omega) rfl,VF<|q 12 61 61 rfl (by omega) (by omega) rfl,VF<|q 13 60 60 rfl (by omega) (by omega) rfl,VF<|q 14 62 62 rfl (by omega) (by omega) rfl,VF<|q 15 43 43 rfl (by omega) (by omega) rfl,VF<|q 16 45 45 rfl (by omega) (by omega) rfl,VF<|q 17 42 42 rfl (by omega) (by omega) rfl,VF<|q 18 47 47 rfl (by omega) (by omega) rfl,VF<|q 19 37 37 rfl (by omega) (by omega) rfl]
 cases X with
 |nil=>simp only[dq];exact qD
 |cons d X=>
  have l:eY c.toNat d.toNat=99:=by
   simp[bt,gA,List.isPrefixOf]at g h i;unfold eY;rw[VF,VF,VF]
   .rintro⟨b,k⟩;exact i (Wg.1 b).symm (Wg.1 k).symm
   .rintro⟨b,k⟩;exact h (Wg.1 b).symm (Wg.1 k).symm
   rintro⟨b,k⟩;exact g (Wg.1 b).symm (Wg.1 k).symm
  rw[dq,l,VG rfl];exact qD
structure lL:Prop where
 pre:∀(s p:Y9) (w:Za),Zc prog 206 #[.string s,.string p] w<|qE (.bool<|p.data.toList.isPrefixOf s.data.toList) w
 upper:∀(s:Y9) (w:Za),s.size<=1048576->(∀c∈s.data.toList,c.toNat<128)->Zc prog 203 #[.string s] w (qF (qT<|s.data.toList.map fU) w)
 trim:∀(s:Y9) (w:Za),Zc prog 142 #[.string s,.string ⟨#[32,9,10]⟩] w<|qF (qT<|s.data.toList.dropWhile bW) w
 clone:∀(s:Y9) (w:Za),s.size<=1048576->Zc prog 204 #[.string s] w (qF (.string s) w)
 atoi:∀(s:Y9) (w:Za),s.size<=1048576->(∀c∈s.data.toList,aQ c=true)->s.data.toList≠[]->dK 0 s.data.toList<=9223372036854775807->Zc prog 205 #[.string s] w (qF (.tuple #[qI<|dK 0 s.data.toList,.nilIface]) w)
 a:∀(s:Y9) (w:Za),s.size<=1048576->(∀c∈s.data.toList,aQ c=true)->s.data.toList≠[]->9223372036854775807<dK 0 s.data.toList->(∃te pe,w.cell? ⟨8,0,none⟩=some (.iface te pe))->Zc prog 205 #[.string s] w λe w'=>∃n te pe,e=.returned (.tuple #[qI n,.iface te pe])/\qB w w'
def lt_of_cell{v:Zb}(h:w.cell? ⟨n,k,none⟩=some v):n<w.heap.size:=by
 obtain a|a:=Wx n w.heap.size
 .exact a
 exfalso;unfold Za.cell? at h;rw[Xf a]at h;simp at h
def iC.lt(h:iC w): 1<w.heap.size:=lt_of_cell<|h 0<|by omega
def OG(X:lL)(c:UInt8)(r:YX)(t:iC w):
 Zc prog 148 #[.string ⟨(c::r).toArray⟩] w λe h=>e=.returned (fZ (dq<|c::r)<|c::r)/\Zd w.heap.size w h:=by
 have n:=Z t;go_in;go_wp2
 go_loop [4] (λa=>∃i:Nat,4<=i/\i<=20/\a=.int .i64 i/\Ze (∀j,4<=j->j<i->(bt j).isPrefixOf (c::r)=false)) (λa=>20-(Zk a).toNat)
 exact⟨4,by omega,by omega,rfl,λj b o=>by omega⟩
 case round=>
  obtain⟨i,q,hi,rfl,d⟩:=hrel;by_cases g:i<20
  .have u:=n.o i (by omega);have y:=n.lt;have k:Ze (∀w,Zc prog 206 #[.string ⟨(c::r).toArray⟩,.string ⟨(bt i).toArray⟩] w λe h=>e=.returned (.bool<|(bt i).isPrefixOf<|c::r)/\h=w):=λw=>(Z X.pre) _ _ w;cases hp:(bt i).isPrefixOf (c::r)
   .go_wp2_with fail;apply qS<|k _;rw[hp];go_wp2;go_round
    case rel=>exact ⟨i+1,by omega,by omega,by go_num,λj b o=>by
     by_cases e:j=i
     .subst e;exact hp
     .exact d j b<|by omega⟩
    simp[Zk];omega
   have hs:=GX q g hp d;have p:Ze<|fZ (dq<|c::r) (c::r)=.tuple #[.agg #[.int .i64 i,.int .i64 0,.string ⟨#[]⟩],.int .i64 (bt i).length]:=by unfold Ze;rw[ml (by rw[hs];show i≠99;omega),hs,kg];have x:(bt i).length<=(c::r).length:=(List.isPrefixOf_iff_prefix.1 hp).length_le;simp only[Wp];rw[show(c::r).length-((c::r).length-(bt i).length)=(bt i).length by omega]
   go_wp2_with fail;apply qS<|k _;rw[hp];go_wp2;go_region;go_wp2_with fail;refine VI (v:=.tuple #[.agg #[.int .i64 i,.int .i64 0,.string ⟨#[]⟩],.int .i64 (bt i).length]) ?_ rfl ⟨by rw[p],((VM _ _).alloc (VR _) _).drew⟩;simp[Zh,results148,go_sem]
  have k:=Z<|lu (l:=c::r)<|EB λj b o=>d j b (by omega);go_wp2_with fail;refine VI (v:=.tuple #[iu,.int .i64 0]) ?_ rfl ⟨by rw[k],(VM _ _).alloc (VR _) _⟩;simp[Zh,results148,go_sem,iu]
def OU(p:UInt8->Bool):∀l:YX,(l.takeWhile p).length<=l.length
 |[]=>qZ
 |c::r=>by rw[Yc];split;simp;exact OU p r;simp
def Rg(p:UInt8->Bool)(l:YX):(l.takeWhile p).length+(l.dropWhile p).length=l.length:=by rw[<-VH,List.takeWhile_append_dropWhile]
def KH(p:UInt8->Bool):∀l:YX,l.take (l.takeWhile p).length=l.takeWhile p
 |[]=>rfl
 |c::r=>by
  rw[Yc];split
  .simp[KH p r]
  rfl
def Nk(p:UInt8->Bool)(s:Y9):(s.extract 0 (s.data.toList.takeWhile p).length).data.toList=s.data.toList.takeWhile p:=by rw[nY,WG,KH]
def lJ(w:Za):Prop:=∃te pe,w.cell? ⟨8,0,none⟩=some (.iface te pe)
def lJ.alloc(h:lJ w)(o:Obj):lJ<|w.alloc o:=by obtain⟨c,b,a⟩:=h;exact⟨c,b,by rw[WK (hn:=lt_of_cell a)];exact a⟩
def I9(X:lL)(s:Y9)(w:Za)(q:s.size<=1048576)(y:(s.data.toList.takeWhile aQ)≠[])(B:lJ w):
 Zc prog 146 #[.string s] w λe D=>e=.returned (fZ (ed<|s.data.toList.takeWhile aQ,s.data.toList.dropWhile aQ) s.data.toList)/\qB w D:=by
 have l:=Z<|G6 s;have F:(s.data.toList.takeWhile aQ).length<=s.size:=by simpa using OU aQ s.data.toList
 have b:=Z<|Nk aQ s;have r:=Z<|Rg aQ s.data.toList;have k:Ze (∀c∈s.data.toList.takeWhile aQ,aQ c=true):=λc z=>pM z;generalize A:s.data.toList.takeWhile aQ=a at*;generalize C:s.data.toList.dropWhile aQ=i at*;have o:=Z X;have t:=Z B;have j:=Z y;have h:(s.extract 0 a.length).size<=1048576:=by rw[ByteArray.size_extract];omega
 have d:=Z h;by_cases g:9223372036854775807<dK 0 a
 .have u:Ze<|fZ (ed a,i) s.data.toList=.tuple #[iu,qI 0]:=lu (by unfold ed;rw[VG g];rfl);have x:=Z g;go_in;go_wp2_with fail;apply(l _ q).mono;rintro e I⟨rfl,rfl⟩;go_wp2_with fail;refine(o.a _ _ d (by rw[b];exact k) (by rw[b];exact j) (by rw[b];exact x)<|lJ.alloc t _).mono ?_;rintro e J⟨n,H,G,rfl,p⟩;obtain⟨c1,E⟩:=dN p;go_wp2_with fail;refine VI (v:=.tuple #[iu,qI 0]) ?_ rfl ⟨by rw[u],?_⟩
  .simp[Zh,results146,go_sem,iu,c1]
  exact eJ (qA.trans<|p.mono<|by simp) _ _ _
 ·have p:Ze<|fZ (ed a,i) s.data.toList=.tuple #[.agg #[qI 2,qI<|dK 0 a,.string ⟨#[]⟩],qI a.length]:=by
   have e:ed a=⟨2,dK 0 a,[]⟩:=by unfold ed;rw[VF g]
   unfold Ze;rw[ml (by rw[e];show(2:Nat)≠99;decide),e,kg];simp only;rw[show s.data.toList.length-i.length=a.length by have:=r.o;omega];rfl
  have u:=Z g;go_in;go_wp2_with fail;apply(l _ q).mono;rintro e E⟨rfl,rfl⟩;go_wp2_with fail;refine(o.atoi _ _ d (by rw[b];exact k) (by rw[b];exact j) (by rw[b];have:=u.o;omega)).mono ?_;rw[b];rintro e G⟨rfl,n⟩;obtain⟨c1,x⟩:=dN n;go_wp2_with fail;refine VI (v:=.tuple #[.agg #[qI 2,qI<|dK 0 a,.string ⟨#[]⟩],qI a.length]) ?_ rfl ⟨by rw[p],?_⟩
  .simp[Zh,results146,go_sem,c1]
  exact eJ (qA.trans<|n.mono<|by simp) _ _ _
def ML{c:UInt8}(h:dV c=true):c.toNat<128:=by
 unfold dV at h;simp only[Yz]at h;obtain h|h:=h
 .have:=(qp c).1 h;omega
 have:=(gg c).1 h;omega
def iC.below(h:iC w)(a:qB w W):iC W:=λk hk=>by rw[a.cell (p:=⟨1,k,none⟩) h.lt];exact h k hk
def lJ.below(h:lJ w)(b:qB w W):lJ W:=by obtain⟨d,c,a⟩:=h;exact⟨d,c,by rw[b.cell (p:=⟨8,0,none⟩)<|lt_of_cell a];exact a⟩
def Mm(X:lL)(s:Y9)(w:Za)(B:s.size<=1048576)(z:iC w):
 Zc prog 144 #[.string s] w λe D=>e=.returned (fZ (da<|s.data.toList.takeWhile dV,s.data.toList.dropWhile dV) s.data.toList)/\qB w D:=by
 have H:(s.data.toList.takeWhile dV).length<=s.size:=by simpa using OU dV s.data.toList
 have j:=Z<|Nk dV s;have n:=Z<|Rg dV s.data.toList;have q:Ze (∀c∈s.data.toList.takeWhile dV,c.toNat<128):=λc x=>ML<|pM x;generalize y:s.data.toList.takeWhile dV=a at*;generalize A:s.data.toList.dropWhile dV=h at*;have o:=Z X;have p:=Z z;have l:(s.extract 0 a.length).size<=1048576:=by rw[ByteArray.size_extract];omega
 have b:=Z l;go_in;go_wp2_with fail;apply(U (Z<|L4 s) _ B).mono;rintro e I⟨rfl,rfl⟩;go_wp2_with fail;refine(o.o.upper _ _ b.o (by rw[j.o];exact q.o)).mono ?_;rw[j.o];rintro e J⟨rfl,k⟩;obtain⟨c1,F⟩:=dN k;have HB:=Z<|((VM w.heap.size w).alloc (VR _) _).trans<|k.mono (by simp);go_wp2_with fail;apply(F8 (a.map fU)<|p.o.below HB.o).mono;rintro e E⟨rfl,rfl⟩;cases hk:nC (a.map fU)with
 |some i=>
  have hi:=lY hk;have e:da a=⟨20+i,0,[]⟩:=by unfold da;rw[hk]
  have g:Ze<|fZ (da a,h) s.data.toList=.tuple #[.agg #[qI ((20+i:Nat):Int),qI 0,.string ⟨#[]⟩],qI a.length]:=by unfold Ze;rw[ml (by rw[e];show 20+i≠99;omega),e,kg];simp only;rw[show s.data.toList.length-h.length=a.length by have:=n.o;omega]
  have d:NI (a.map fU)=((20+i:Nat):Int):=by unfold NI;rw[hk]
  rw[d];have r:i<31:=by omega
  go_wp2_with fail;refine VI (v:=.tuple #[.agg #[qI ((20+i:Nat):Int),qI 0,.string ⟨#[]⟩],qI a.length]) ?_ rfl ⟨by rw[g.o],?_⟩
  .simp[Zh,results144,go_sem,c1]
  exact eJ HB.o _ _ _
 |none=>
  have i:NI (a.map fU)=0:=by unfold NI;rw[hk]
  rw[i];by_cases d:10<a.length
  .have g:Ze<|fZ (da a,h) s.data.toList=.tuple #[iu,qI 0]:=lu (by unfold da;rw[hk];simp only;rw[VG d];rfl);go_wp2_with fail;refine VI (v:=.tuple #[iu,qI 0]) ?_ rfl ⟨by rw[g.o],?_⟩
   .simp[Zh,results144,go_sem,iu,c1]
   exact eJ HB.o _ _ _
  have t:Ze<|fZ (da a,h) s.data.toList=.tuple #[.agg #[qI 1,qI 0,qT a],qI a.length]:=by
   have e:da a=⟨1,0,a⟩:=by unfold da;rw[hk];simp only;rw[VF d]
   unfold Ze;rw[ml (by rw[e];show(1:Nat)≠99;decide),e,kg];simp only;rw[show s.data.toList.length-h.length=a.length by have:=n.o;omega];rfl
  have r:Ze<|s.extract 0 a.length=⟨a.toArray⟩:=by unfold Ze;apply ByteArray.ext;apply Xt.1;rw[j.o]
  go_wp2_with fail;apply(o.o.clone _ _ b.o).mono;rw[r.o];rintro e K⟨rfl,g⟩;have C:w.heap.size<E.heap.size:=by have:=HB.o.size;have u:=(Z k.size).o;simp at u;omega
  obtain⟨c4,G⟩:=dN g;go_wp2_with fail;refine VI (v:=.tuple #[.agg #[qI 1,qI 0,qT a],qI a.length]) ?_ rfl ⟨by rw[t.o],?_⟩
  .simp[Zh,results144,go_sem,c4,c1,C]
  exact eJ (Z<|HB.o.trans<|g.mono<|by omega).o _ _ _
def Q0(a:Za)(n:Int):(convert 83 9<|qL a.heap.size 1 1).run prog (a.alloc<|.cells #[.int .u8 n] 5)=.ok (.string ⟨#[UInt8.ofNat n.toNat]⟩) (a.alloc<|.cells #[.int .u8 n] 5):=by
 have h:=run_convert_bytes_arg (P:=prog) (a.alloc<|.cells #[.int .u8 n] 5) 83 5 underlying83 underlying5 a.heap.size 0 1 1 [n] rfl (by
  intro i hi;have:i=0:=by omega
  subst this
  simp) 9 underlying9
 rw[h];simp[strOfNums]
def Iz(s:Y9)(h:k<s.size){x:UInt8}(a:x=fU s[k]):
 Zb.string (({data:=(List.take k<|List.map fU s.data.toList).toArray}:Y9)++{data:=#[x]})=qT ((s.data.toList.take<|k+1).map fU):=by
 have:=ByteArray.mk_append_mk (List.take k<|List.map fU s.data.toList) [x];rw[show(#[x]:Array UInt8)=[x].toArray from rfl,this,DB s k h];simp[a]
def UQ{c:UInt8}(a:(97:Int)<=c.toNat)(b:(c.toNat:Int)<=122):UInt8.ofNat (c.toNat-32)=fU c:=by rw[fU,VG<|by omega]
def UR{c:UInt8}(h:¬((97:Int)<=c.toNat/\(c.toNat:Int)<=122)):c=fU c:=by rw[fU,VF<|by omega]
def Lm(s:Y9)(c:s.size<=10):
 Zc prog 188 #[.string s] w (qF (qT<|s.data.toList.map fU) w):=by
 have d:=Q0;go_in;go_wp2
 go_loopw [3,4] (λo i wr=>∃k:Nat,k<=s.size/\i=qI k/\o=qT ((s.data.toList.take k).map fU)/\qB w wr) (λ_ i _=>s.size-(Zk i).toNat)
 exact⟨0,qO,rfl,rfl,qW⟩
 case round=>
  obtain⟨k,hk,rfl,rfl,a⟩:=hrel;by_cases b:k<s.size
  ·go_wp2;all_goals
    go_roundw;exact⟨k+1,by omega,by go_num,Iz s b<|by first|exact UQ ‹_› ‹_›|exact UR (by omega),a.alloc a.size _⟩
    case measure=>simp[Zk];omega
  go_wp2;go_ret;exact⟨i5<|by rw[VX (by simp;omega)],a⟩
def Kg:Y_:=((gA.drop 20).map λl=>qT l).toArray
def xh  :
 Zc prog 189 #[] w λe a=>∃b,e=.returned (qL b 31 31)/\w.heap.size<=b/\b<a.heap.size/\(∀i,i<31->a.cell? ⟨b,i,none⟩=some (qT<|bt<|20+i))/\qB w a:=by
 go_in;go_wp2;go_ret;refine⟨w.heap.size,rfl,qZ,by simp,?_,qA⟩;intro i hi;rw[Za.cell?_alloc_at (hn:=rfl)];refine(Wd (λA:Y_=>A[i]?) (show _=Kg from rfl)).trans ?_;unfold Kg bt;simp only[XZ,VO,Xa,Wm];rw[VE (by simp[gA];omega)];rfl
def Hw(l:YX)(e:k<31)(a:∀j,j<k->bt (20+j)≠l.map fU)(b:bt (20+k)=l.map fU):
 cU (da l)=.agg #[.int .u8 107,qT<|l.map fU,qI 0]:=by
 have d:nC (l.map fU)=some k:=o_ qO (by omega) (λj _ c=>a j c) b;unfold da;rw[d];simp only[cU,gj,bG,cA,gT];rw[VF<|by omega,VF<|by omega,VF<|by omega,VF<|by omega,VF<|by omega,VG<|by omega,VF<|by omega,VF<|by omega,b]
def ET(l:YX)(a:∀j,j<31->bt (20+j)≠l.map fU)(d:l.length<=10):
 cU (da l)=.agg #[.int .u8 119,qT l,qI 0]:=by
 have b:nC (l.map fU)=none:=lX λj _ c=>a j (by omega);unfold da;rw[b];simp only;rw[VF<|by omega];rfl
def ES(l:YX)(a:10<l.length):
 cU (da l)=.agg #[.int .u8 120,.string ⟨#[]⟩,qI 0]:=by
 have b:nC (l.map fU)=none:=Ef (by simp;omega);unfold da;rw[b];simp only;rw[VG a];rfl
def O7{s:Y9}:
 Zc prog 130 #[.string s] w (qF (cU<|da s.data.toList) w):=by
 by_cases hs:s.size<=10
 .go_in;go_wp2_with fail;apply qR<|Lm s hs;intro u b;go_wp2_with apply xh.mono;rintro e o⟨kb,rfl,r,t,a,c⟩;obtain⟨c1,x⟩:=dN b;obtain⟨c2,y⟩:=dN c;have p:w.heap.size<u.heap.size:=by have:=b.size;simp at this;omega
  have z:w.heap.size<o.heap.size:=by have:=c.size;omega
  have g:qB w o:=(qA.trans<|b.mono<|by simp).trans<|c.mono (by omega);go_wp2
  go_loop [5] (λi=>∃k:Nat,k<=31/\i=qI k/\∀j,j<k->bt (20+j)≠s.data.toList.map fU) (λi=>31-(Zk i).toNat)
  exact⟨0,qO,rfl,λj n=>by omega⟩;obtain⟨k,hk,rfl,d⟩:=hrel;by_cases h:k<31
  .have q:=a k h;cases l:(bt (20+k)==s.data.toList.map fU)
   .go_wp2;go_round
    case rel=>exact ⟨k+1,by omega,by go_num,λj n=>by
     by_cases e:j=k
     .subst e;simpa using l
     .exact d j<|by omega⟩
    simp[Zk];omega
   go_wp2;refine VI (v:=.agg #[.int .u8 107,qT<|s.data.toList.map fU,qI 0]) ?_ rfl ⟨?_,?_⟩
   .simp[Zh,results130,go_sem,c1,c2,p]
   .rw[Hw s.data.toList h d<|by simpa using l]
   exact((g.setCell qZ _).setCell qZ _).setCell qZ _
  clear a;go_wp2;refine VI (v:=.agg #[.int .u8 119,.string s,qI 0]) ?_ rfl ⟨?_,?_⟩
  .simp[Zh,results130,go_sem,c1,c2,p]
  .rw[ET s.data.toList (λj n=>d j<|by omega)<|by simpa using hs]
  exact((g.setCell qZ _).setCell qZ _).setCell qZ _
 .go_in;go_wp2_with apply xh.mono;rintro e g⟨kb,rfl,j,l,a,b⟩;obtain⟨c2,n⟩:=dN b;have p:w.heap.size<g.heap.size:=by have:=b.size;simp at this;omega
  have c:qB w g:=(qA).trans<|b.mono (by simp);go_wp2
  go_loop [5] (λi=>∃k:Nat,k<=31/\i=qI k) (λi=>31-(Zk i).toNat)
  exact⟨0,qO,rfl⟩;obtain⟨k,hk,rfl⟩:=hrel;by_cases d:k<31
  .have h:=a k d;have o:(bt<|20+k).isEmpty=false:=by simpa using G7 (20+k) (by omega) (by omega)
   go_wp2;go_round;exact⟨k+1,by omega,by go_num⟩;simp[Zk];omega
  clear a;go_wp2;refine VI (v:=.agg #[.int .u8 120,.string ⟨#[]⟩,qI 0]) ?_ rfl ⟨?_,?_⟩
  .simp[Zh,results130,go_sem,c2]
  .rw[ES s.data.toList (by simp;omega)]
  exact((c.setCell qZ _).setCell qZ _).setCell qZ _
def N6{s:Y9}{m v:Int}(a:k<s.size)(c:Ze<|ji X (aq s k) m b)(d:Ze<|aQ s[k]=true)(g:v=10*m+(s[k].toNat-48))(e:v<=9223372036854775807):
 ji X (aq s<|k+1) v b:=by
 have h:=c.o;rw[cJ s k a]at h;subst g;exact Cs h d e
def LD{s:Y9}{m v:Int}(a:k<s.size)(c:Ze<|ji X (aq s k) m b)(d:Ze<|aQ s[k]=true)(g:v=s[k].toNat-48)(e:9223372036854775807<10*m+(s[k].toNat-48)):
 ji X (aq s<|k+1) v true:=by
 have h:=c.o;rw[cJ s k a]at h;subst g;exact Bn h d e
def Kq{s:Y9}{m:Int}(a:Ze<|ji X (aq s k) m b)(c:¬k<s.size\/∃h:k<s.size,aQ s[k]=false):
 aq s k=X.dropWhile aQ/\ed (X.takeWhile aQ)=if b=true then dF else ⟨2,m,[]⟩:=by
 refine Em a ?_;obtain h|⟨h,hd⟩:=c
 .exact .inl<|gK s k<|by omega
 .exact .inr ⟨_,_,cJ s k h,hd⟩
def Gr(s:Y9)(x:i<=s.size)(y:s.size<=1048576):
 Zc prog 131 #[.string s,qI i] w λe l=>∃q:Nat,e=.returned (.tuple #[cU<|ed<|(aq s i).takeWhile aQ,qI q])/\i<=q/\q<=s.size/\aq s q=(aq s i).dropWhile aQ/\qB w l:=by
 go_in;go_wp2
 go_loop [1,6,7] (λa n b=>∃(k:Nat) (m:Int) (t:Bool),i<=k/\k<=s.size/\a=qI k/\n=qI m/\b=.bool t/\ji (aq s i) (aq s k) m t) (λa _ _=>s.size-(Zk a).toNat)
 exact⟨i,0,false,qZ,x,rfl,rfl,rfl,Bp⟩
 case round=>
  obtain⟨k,m,t,hk,d,rfl,rfl,rfl,j⟩:=hrel;have r:0<=m:=j.2.1;have u:m<=9223372036854775807:=j.2.2.1;have g:Ze<|ji (aq s i) (aq s k) m t:=j;by_cases c:k<s.size
  .cases hd:aQ s[k]
   ·have h:=Kq g<|.inr ⟨c,hd⟩;have o:Ze<|aq s k=(aq s i).dropWhile aQ:=h.1;have p:Ze<|ed ((aq s i).takeWhile aQ)=if t=true then dF else ⟨2,m,[]⟩:=h.2;cases t;all_goals
     go_wp2_with (go_at_call 129;apply jQ.mono;rintro e l⟨rfl,rfl⟩);refine VI (v:=.tuple #[cU<|ed<|(aq s i).takeWhile aQ,qI k]) ?_ rfl ⟨k,rfl,hk,d,o,(qA)⟩;rw[p];simp[Zh,results131,go_sem,cU,gj,bG,cA,gT,dF,bt,gA]
   have o:(48:Int)<=s[k].toNat:=by have:=(gg _).1 hd;omega
   have p:(s[k].toNat:Int)<=57:=by have:=(gg _).1 hd;omega
   have h:Ze<|aQ s[k]=true:=hd;go_wp2_with (go_at_call 129;apply jQ.mono;rintro e l⟨rfl,rfl⟩);all_goals
    go_round;exact⟨k+1,_,_,by omega,by omega,by go_num,rfl,rfl,by first|exact N6 c g h (by omega) (by omega)|exact LD c g h (by omega) (by omega)⟩
    case measure=>simp[Zk];omega
  have h:=Kq g<|.inl c;have o:Ze<|aq s k=(aq s i).dropWhile aQ:=h.1;have p:Ze<|ed ((aq s i).takeWhile aQ)=if t=true then dF else ⟨2,m,[]⟩:=h.2;clear h;cases t;all_goals
   go_wp2_with fail;refine VI (v:=.tuple #[cU<|ed<|(aq s i).takeWhile aQ,qI k]) ?_ rfl ⟨k,rfl,hk,d,o,(qA)⟩;rw[p];simp[Zh,results131,go_sem,cU,gj,bG,cA,gT,dF,bt,gA]
def oU(s:Y9)(p k:Nat)(acc:YX):Prop:=bj [] (aq s p)=bj acc (aq s k)
def Lt{s:Y9}(a:k<s.size)(h:oU s n k X)(b:s[k].toNat≠39):oU s n (k+1)<|X++[s[k]]:=by
 unfold oU at*;rw[h,cJ s k a];by_cases c:k+1<s.size
 .rw[cJ s (k+1) c,bj,VF b]
 rw[gK s (k+1)<|by omega];simp[bj,b]
def P5{s:Y9}(a:k+1<s.size)(h:oU s n k X)(b:s[k].toNat=39)(c:s[k+1].toNat=39):oU s n (k+2)<|X++[s[k]]:=by unfold oU at*;rw[h,cJ s k<|by omega,cJ s (k+1) a,bj,VG b,VG c]
def Kj{s:Y9}(b:k<s.size)(h:oU s n k X)(c:s[k].toNat=39)(a:¬k+1<s.size\/∃h:k+1<s.size,s[k+1].toNat≠39):
 bj [] (aq s n)=(if 40<X.length then dF else ⟨3,0,X⟩,aq s<|k+1):=by
 unfold oU at h;rw[h,cJ s k b];obtain a|⟨d,a⟩:=a
 .rw[gK s (k+1)<|by omega,bj,VG c]
 .rw[cJ s (k+1) d,bj,VG c,VF a]
def NK{s:Y9}(a:¬k<s.size)(h:oU s n k X):bj [] (aq s n)=(dF,aq s k):=by unfold oU at h;rw[h,gK s k<|by omega,bj]
def Gj(s:Y9)(E:n<s.size)(F:s.size<=1048576):
 Zc prog 132 #[.string s,.int .i64 n] w λe C=>∃q:Nat,e=.returned (.tuple #[cU (bj []<|aq s<|n+1).1,.int .i64 q])/\n<=q/\q<=s.size/\aq s q=(bj []<|aq s<|n+1).2/\Zd w.heap.size w C:=by
 have G:=Q0;go_in;go_wp2
 go_loopw [6,7] (λo i wr=>∃(k:Nat) (a:YX),n<k/\k<=s.size/\a.length<=k/\o=qT a/\i=qI k/\oU s (n+1) k a/\wr.cell? ⟨w.heap.size,0,none⟩=some (.int .u8 0)/\wr.cell? ⟨w.heap.size,1,none⟩=some (.string ⟨#[]⟩)/\wr.cell? ⟨w.heap.size,2,none⟩=some (qI 0)/\(∀o,wr.frozen? ⟨w.heap.size,o,none⟩=false)/\w.heap.size<wr.heap.size/\qB w wr) (λ_ i _=>s.size-(Zk i).toNat)
 exact⟨n+1,[],by omega,by omega,by simp,rfl,by go_num,rfl,by simp,by simp,by simp,by simp,by simp,qA⟩
 case round=>
  obtain⟨k,a,hk,A,y,rfl,rfl,B,h,j,l,x,c,d⟩:=hrel;have g:Ze<|oU s (n+1) k a:=B;by_cases b:k<s.size
  .by_cases p:s[k].toNat=39
   .by_cases r:k+1<s.size
    .by_cases hd:s[k+1].toNat=39
     .have t:=P5 r g p hd;rw[Ax p]at t;have u:Ze<|oU s (n+1) (k+2)<|a++[39]:=t;have z:(((s[k+1].toNat:Nat):Int) != 39)=false:=by simp;omega
      go_wp2;go_roundw;exact⟨k+2,a++[39],by omega,by omega,by simp;omega,Hg a 39,by go_num,u,by rw[WK (hn:=c)];exact h,by rw[WK (hn:=c)];exact j,by rw[WK (hn:=c)];exact l,λo=>by rw[Yr (hn:=c)];exact x o,by simp;omega,d.alloc d.size _⟩;simp[Zk];omega
     have z:(((s[k+1].toNat:Nat):Int) != 39)=true:=by simp;omega
     have u:=Kj b g p<|.inr ⟨r,hd⟩;have t:Ze<|bj [] (aq s<|n+1)=(if 40<a.length then dF else ⟨3,0,a⟩,aq s<|k+1):=u;by_cases D:40<a.length;all_goals
      go_wp2;refine VI (v:=.tuple #[cU (bj []<|aq s<|n+1).1,.int .i64 (k+1:Nat)]) ?_ rfl ⟨k+1,rfl,by omega,by omega,by rw[t],((d.setCell qZ _).setCell qZ _).setCell qZ _⟩;rw[t]
      first|rw[VG<|by omega]|rw[VF<|by omega]
      simp[Zh,results132,go_sem,cU,gj,bG,cA,gT,dF,bt,gA,h,j,l]
    have u:=Kj b g p<|.inl r;have t:Ze<|bj [] (aq s<|n+1)=(if 40<a.length then dF else ⟨3,0,a⟩,aq s<|k+1):=u;clear u;by_cases u:40<a.length;all_goals
     go_wp2;refine VI (v:=.tuple #[cU (bj []<|aq s<|n+1).1,.int .i64 (k+1:Nat)]) ?_ rfl ⟨k+1,rfl,by omega,by omega,by rw[t],((d.setCell qZ _).setCell qZ _).setCell qZ _⟩;rw[t]
     first|rw[VG<|by omega]|rw[VF<|by omega]
     simp[Zh,results132,go_sem,cU,gj,bG,cA,gT,dF,bt,gA,h,j,l]
   have t:=Lt b g p;have r:Ze<|oU s (n+1) (k+1)<|a++[s[k]]:=t;go_wp2;go_roundw;exact⟨k+1,a++[s[k]],by omega,by omega,by simp;omega,Hg a _,by go_num,r,by rw[WK (hn:=c)];exact h,by rw[WK (hn:=c)];exact j,by rw[WK (hn:=c)];exact l,λo=>by rw[Yr (hn:=c)];exact x o,by simp;omega,d.alloc d.size _⟩;simp[Zk];omega
  have r:=NK b g;have p:Ze<|bj [] (aq s<|n+1)=(dF,aq s k):=r;go_wp2;refine VI (v:=.tuple #[cU (bj []<|aq s<|n+1).1,.int .i64 k]) ?_ rfl ⟨k,rfl,by omega,by omega,by rw[p],((d.setCell qZ _).setCell qZ _).setCell qZ _⟩;rw[p];simp[Zh,results132,go_sem,cU,gj,bG,cA,gT,dF,bt,gA,h,j,l]
def IX{s:Y9}(a:k<s.size)(h:(aq s k).dropWhile bW=X)(b:bW s[k]=true):(aq s<|k+1).dropWhile bW=X:=by rw[cJ s k a,WO b]at h;exact h
def Lu{s:Y9}(a:k<s.size)(h:(aq s k).dropWhile bW=X)(b:bW s[k]=false):X=aq s k:=by rw[<-h,cJ s k a,XH<|by simp[b]]
def Di{s:Y9}{e:Nat}(a:k<s.size)(b:Ze<|(aq s n).dropWhile bW=aq s k)(c:fL s[k]=true)(h:(s.extract k e).data.toList=(aq s k).takeWhile dV/\aq s e=(aq s k).dropWhile dV):
 aO (aq s n)=(da (s.extract k e).data.toList,aq s e):=by
 unfold aO;rw[b,h.1,h.2];rw[cJ s k a];simp only[cK,c,if_true]
def NN{s:Y9}(a:k<s.size)(b:Ze<|(aq s n).dropWhile bW=aq s k)(d:fL s[k]=false)(c:aQ s[k]=true):
 aO (aq s n)=(ed<|(aq s k).takeWhile aQ,(aq s k).dropWhile aQ):=by
 unfold aO;rw[b];rw[cJ s k a];simp only[cK,d,c,if_true,if_false,WJ]
def NM{s:Y9}(a:k<s.size)(b:Ze<|(aq s n).dropWhile bW=aq s k)(d:fL s[k]=false)(c:aQ s[k]=false)(e:s[k].toNat=39):
 aO (aq s n)=bj [] (aq s<|k+1):=by
 unfold aO;rw[b];rw[cJ s k a];simp only[cK,d,c,e,if_true,if_false,WJ]
def IZ{s:Y9}(b:k+1<s.size)(a:Ze<|(aq s n).dropWhile bW=aq s k)(d:fL s[k]=false)(c:aQ s[k]=false)(e:¬s[k].toNat=39)
 (g:eY s[k].toNat s[k+1].toNat≠99):aO (aq s n)=(⟨eY s[k].toNat s[k+1].toNat,0,[]⟩,aq s<|k+2):=by
 unfold aO;rw[a];rw[cJ s k<|by omega,cJ s (k+1) b];simp only[cK,d,c,e,if_false,WJ,dq,g]
def Bh{s:Y9}(a:k<s.size)(g:Ze<|(aq s n).dropWhile bW=aq s k)(d:fL s[k]=false)(c:aQ s[k]=false)(e:¬s[k].toNat=39)
 (i:∀h:k+1<s.size,eY s[k].toNat s[k+1].toNat=99):aO (aq s n)=(⟨ey s[k].toNat,0,[]⟩,aq s<|k+1):=by
 unfold aO;rw[g];rw[cJ s k a];by_cases b:k+1<s.size
 .rw[cJ s (k+1) b];simp only[cK,d,c,e,if_false,WJ,dq,i b,if_true]
 .rw[gK s (k+1)<|by omega];simp only[cK,d,c,e,if_false,WJ,dq]
def zP:YX:=[40,41,44,46,59,61,60,62,43,45,42,47,37]
def Qb(h:i<13):((({data:=#[40,41,44,46,59,61,60,62,43,45,42,47,37]}:Y9)[i]'h).toNat:Nat)=(zP.getD i 0).toNat:=by
 have:∀i:Fin 13,((({data:=#[40,41,44,46,59,61,60,62,43,45,42,47,37]}:Y9)[i.1]'i.2).toNat:Nat)=(zP.getD i.1 0).toNat:=by decide
 exact this ⟨i,h⟩
def N9(h:i<13){c:UInt8}(d:(zP.getD i 0).toNat=c.toNat):cU ⟨ey c.toNat,0,[]⟩=.agg #[.int .u8 115,qT [c],qI 0]:=by
 have b:zP.getD i 0=c:=Wg.1 d;have:∀i:Fin 13,cA (ey (zP.getD i.1 0).toNat)=115/\gT ⟨ey (zP.getD i.1 0).toNat,0,[]⟩=[zP.getD i.1 0]/\ey (zP.getD i.1 0).toNat≠2:=by decide
 have a:=this ⟨i,h⟩;simp only[b]at a;unfold cU bG gj;rw[a.1,a.2.1,VF a.2.2]
def LI{c:UInt8}(h:∀i,i<13->(zP.getD i 0).toNat≠c.toNat):ey c.toNat=99:=by have e:=h 0 (by omega);have g:=h 1 (by omega);have j:=h 2 (by omega);have k:=h 3 (by omega);have l:=h 4 (by omega);have n:=h 5 (by omega);have o:=h 6 (by omega);have p:=h 7 (by omega);have q:=h 8 (by omega);have r:=h 9 (by omega);have a:=h 10 (by omega);have b:=h 11 (by omega);have d:=h 12 (by omega);simp[zP]at e g j k l n o p q r a b d;unfold ey;repeat rw[VF<|by omega]
def OX{c d:UInt8}(h:(c.toNat=60/\d.toNat=62)\/(c.toNat=60/\d.toNat=61)\/(c.toNat=62/\d.toNat=61)):
 eY c.toNat d.toNat≠99/\cU ⟨eY c.toNat d.toNat,0,[]⟩=.agg #[.int .u8 115,qT [c,d],qI 0]:=by
 obtain⟨a,b⟩|⟨a,b⟩|⟨a,b⟩:=h
 .have e:c=60:=Wg.1 a;have g:d=62:=Wg.1 b;subst e g;exact⟨by decide,rfl⟩
 .have e:c=60:=Wg.1 a;have g:d=61:=Wg.1 b;subst e g;exact⟨by decide,rfl⟩
 .have e:c=62:=Wg.1 a;have g:d=61:=Wg.1 b;subst e g;exact⟨by decide,rfl⟩
def Mb{c d:UInt8}(h:¬((c.toNat=60/\d.toNat=62)\/(c.toNat=60/\d.toNat=61)\/(c.toNat=62/\d.toNat=61))):eY c.toNat d.toNat=99:=by unfold eY;rw[VF<|by omega,VF<|by omega,VF<|by omega]
def xi(s:Y9)(C:n<=s.size)(z:s.size<=1048576):
 Zc prog 77 #[.string s,.int .i64 n] w λe c=>∃q:Nat,e=.returned (.tuple #[cU (aO<|aq s n).1,.int .i64 q])/\n<=q/\q<=s.size/\aq s q=(aO<|aq s n).2/\Zd w.heap.size w c:=by
 go_in;go_wp2_with fail
 go_loop [1] (λa=>∃k:Nat,n<=k/\k<=s.size/\a=.int .i64 k/\Ze ((aq s k).dropWhile bW=(aq s n).dropWhile bW)) (λa=>s.size-(Zk a).toNat)
 case atStart=>exact⟨n,VR _,C,rfl,rfl⟩
 case round=>
  obtain⟨k,hk,r,rfl,o⟩:=hrel;by_cases b:k<s.size
  .cases b1:(((s[k].toNat:Nat):Int)==32)<;>cases b2:(((s[k].toNat:Nat):Int)==9)<;>cases b3:(((s[k].toNat:Nat):Int)==10)
   case false.false.false=>
    have d:bW s[k]=false:=by unfold bW;simp at b1 b2 b3 ⊢;omega
    have l:Ze<|(aq s n).dropWhile bW=aq s k:=Lu b o.o d;clear d o;cases hl:fL s[k]
    case true=>
     have t:Ze<|fL s[k]=true:=hl;go_wp2_with (first|(go_at_call 128;apply km.mono;rintro e c⟨rfl,rfl⟩)|(go_at_call 129;apply jQ.mono;rintro e c⟨rfl,rfl⟩));clear b1 b2 b3 hl
     go_loop [9] (λa=>∃e:Nat,k<=e/\e<=s.size/\a=.int .i64 e/\Ze (qU dV s k e)) (λa=>s.size-(Zk a).toNat)
     case atStart=>exact⟨k,VR _,r,rfl,BS⟩
     obtain⟨e,p,B,rfl,h⟩:=hrel;by_cases g:e<s.size
     focus
      cases ho:dV s[e]
      focus
       have i:Ze<|aO (aq s n)=(da (s.extract k e).data.toList,aq s e):=Di b l t.o<|BR h.o<|.inr ⟨g,ho⟩;have x:fL s[e]=false:=by simp[dV]at ho;exact ho.1
       have y:aQ s[e]=false:=by simp[dV]at ho;exact ho.2
       clear ho;go_wp2_with (first|(go_at_call 128;apply km.mono;rintro e c⟨rfl,rfl⟩)|(go_at_call 129;apply jQ.mono;rintro e c⟨rfl,rfl⟩))
      rotate_left
      ·cases x:fL s[e];all_goals
        cases y:aQ s[e]
       all_goals
        try (exfalso;simp[dV,x,y]at ho;done)
       all_goals
        have u:Ze<|qU dV s k<|e+1:=Dy p g h.o ho;clear h ho;go_wp2_with (first|(go_at_call 128;apply km.mono;rintro e c⟨rfl,rfl⟩)|(go_at_call 129;apply jQ.mono;rintro e c⟨rfl,rfl⟩));go_round
        case rel=>exact⟨e+1,by omega,by omega,by go_num,u⟩
        case measure=>simp[Zk];omega
     rotate_left
     focus
      have i:Ze<|aO (aq s n)=(da (s.extract k e).data.toList,aq s e):=Di b l t.o<|BR h.o<|.inl g;go_wp2_with fail
     all_goals
      apply O7.mono;rintro E A⟨rfl,d⟩;obtain⟨c1,F⟩:=dN d;have D:w.heap.size<A.heap.size:=by have:=d.size;simp at this;omega
      have j:Zd w.heap.size w A:=((VM _ _).alloc (VR _) _).trans<|d.mono (by simp);rw[fr];go_wp2_with fail;refine VI (v:=.tuple #[cU<|da (s.extract k e).data.toList,.int .i64 e]) ?_ rfl ⟨e,by rw[i.o],by omega,by omega,by rw[i.o],?_⟩
      .simp[Zh,results77,go_sem,c1,D,fr]
      .exact(eJ j _ _ _).alloc (by simp;omega) _
    cases hd:aQ s[k]
    case true=>
     have h:Ze<|aO (aq s n)=(ed<|(aq s k).takeWhile aQ,(aq s k).dropWhile aQ):=NN b l hl hd;go_wp2_with (first|(go_at_call 128;apply km.mono;rintro e c⟨rfl,rfl⟩)|(go_at_call 129;apply jQ.mono;rintro e c⟨rfl,rfl⟩));apply(Gr s r z).mono;rintro y i⟨q,rfl,p,t,g,d⟩;have j:Ze<|aq s q=(aq s k).dropWhile aQ:=g;clear g;obtain⟨c1,A⟩:=dN d;have x:w.heap.size<i.heap.size:=by have:=d.size;simp at this;omega
     have g:Zd w.heap.size w i:=((VM _ _).alloc (VR _) _).trans<|d.mono (by simp);rw[fr];go_wp2_with fail;refine VI (v:=.tuple #[cU<|ed<|(aq s k).takeWhile aQ,.int .i64 q]) ?_ rfl ⟨q,by rw[h.o],by omega,by omega,by rw[h.o,j.o],?_⟩
     .simp[Zh,results77,go_sem,c1,x,fr]
     exact eJ g _ _ _
    by_cases d:s[k].toNat=39
    .have x:(((s[k].toNat:Nat):Int)==39)=true:=by simp;omega
     have i:Ze<|aO (aq s n)=bj [] (aq s<|k+1):=NM b l hl hd d;clear d;go_wp2_with (first|(go_at_call 128;apply km.mono;rintro e c⟨rfl,rfl⟩)|(go_at_call 129;apply jQ.mono;rintro e c⟨rfl,rfl⟩));apply(Gj s b z).mono;rintro B j⟨q,rfl,t,y,d,g⟩;have p:Ze<|aq s q=(bj []<|aq s<|k+1).2:=d;clear d;obtain⟨c1,D⟩:=dN g;have A:w.heap.size<j.heap.size:=by have:=g.size;simp at this;omega
     have h:Zd w.heap.size w j:=((VM _ _).alloc (VR _) _).trans<|g.mono (by simp);rw[fr];go_wp2_with fail;refine VI (v:=.tuple #[cU (bj []<|aq s<|k+1).1,.int .i64 q]) ?_ rfl ⟨q,by rw[i.o],by omega,by omega,by rw[i.o,p.o],?_⟩
     .simp[Zh,results77,go_sem,c1,A,fr]
     exact eJ h _ _ _
    have i:(((s[k].toNat:Nat):Int)==39)=false:=by simp;omega
    by_cases x:k+1<s.size
    rotate_left
    focus
     have g:Ze<|aO (aq s n)=(⟨ey s[k].toNat,0,[]⟩,aq s<|k+1):=Bh b l hl hd d λh=>absurd h x;go_wp2_with (first|(go_at_call 128;apply km.mono;rintro e c⟨rfl,rfl⟩)|(go_at_call 129;apply jQ.mono;rintro e c⟨rfl,rfl⟩));clear b1 b2 b3 d i hl hd
    rotate_left
    focus
     by_cases j:(s[k].toNat=60/\s[k+1].toNat=62)\/(s[k].toNat=60/\s[k+1].toNat=61)\/(s[k].toNat=62/\s[k+1].toNat=61)
     ·have p:=OX j;have g:Ze<|aO (aq s n)=(⟨eY s[k].toNat s[k+1].toNat,0,[]⟩,aq s<|k+2):=IZ x l hl hd d p.1;have t:Ze<|cU ⟨eY s[k].toNat s[k+1].toNat,0,[]⟩=.agg #[.int .u8 115,.string ⟨[s[k],s[k+1]].toArray⟩,.int .i64 0]:=p.2;clear p;go_wp2_with (first|(go_at_call 128;apply km.mono;rintro e c⟨rfl,rfl⟩)|(go_at_call 129;apply jQ.mono;rintro e c⟨rfl,rfl⟩));all_goals
       refine VI (v:=.tuple #[cU ⟨eY s[k].toNat s[k+1].toNat,0,[]⟩,.int .i64 (k+2:Nat)]) ?_ rfl ⟨k+2,by rw[g.o],by omega,by omega,by rw[g.o],(VM _ _).alloc (VR _) _⟩;rw[t.o,<-PQ s k x];simp[Zh,results77,go_sem]
     have g:Ze<|aO (aq s n)=(⟨ey s[k].toNat,0,[]⟩,aq s<|k+1):=Bh b l hl hd d λ_=>Mb j;go_wp2_with (first|(go_at_call 128;apply km.mono;rintro e c⟨rfl,rfl⟩)|(go_at_call 129;apply jQ.mono;rintro e c⟨rfl,rfl⟩))
     all_goals try (exfalso;have y:(((s[k+1].toNat:Nat):Int)==62)=true\/(((s[k+1].toNat:Nat):Int)==61)=true:=by assumption
                    simp at y;omega)
     all_goals clear b1 b2 b3 d i hl hd j
    all_goals
     go_loop [14] (λa=>∃i:Nat,i<=13/\a=.int .i64 i/\Ze (∀j,j<i->(zP.getD j 0).toNat≠s[k].toNat)) (λa=>13-(Zk a).toNat)
     case atStart=>exact⟨0,Wi _,rfl,λj d=>by omega⟩
     case round=>
      obtain⟨i,hi,rfl,p⟩:=hrel;by_cases d:i<13
      .have t:=Qb d;cases hx:((((({data:=#[40,41,44,46,59,61,60,62,43,45,42,47,37]}:Y9)[i]'d).toNat:Nat):Int)==(s[k].toNat:Int))
       ·have A:Ze (∀j,j<i+1->(zP.getD j 0).toNat≠s[k].toNat):=λj B=>by
         by_cases e:j=i
         .subst e;rw[<-t];simp at hx;omega
         exact p.o j<|by omega
        clear t p;go_wp2_with fail;go_round
        case rel=>exact⟨i+1,by omega,by go_num,A⟩
        simp[Zk];omega
       have A:Ze<|cU ⟨ey s[k].toNat,0,[]⟩=.agg #[.int .u8 115,.string ⟨[s[k]].toArray⟩,.int .i64 0]:=N9 d (by rw[<-t];simp at hx;omega);clear t p;go_wp2_with fail;refine VI (v:=.tuple #[cU ⟨ey s[k].toNat,0,[]⟩,.int .i64 (k+1:Nat)]) ?_ rfl ⟨k+1,by rw[g.o],by omega,by omega,by rw[g.o],(VM _ _).alloc (VR _) _⟩;rw[A.o,<-D1 s k b];simp[Zh,results77,go_sem]
      have t:Ze<|cU ⟨ey s[k].toNat,0,[]⟩=.agg #[.int .u8 120,.string ⟨#[]⟩,.int .i64 0]:=by show cU ⟨ey s[k].toNat,0,[]⟩=_;rw[LI λj A=>p.o j<|by omega];rfl
      clear p;go_wp2_with fail;refine VI (v:=.tuple #[cU ⟨ey s[k].toNat,0,[]⟩,.int .i64 (k+1:Nat)]) ?_ rfl ⟨k+1,by rw[g.o],by omega,by omega,by rw[g.o],(VM _ _).alloc (VR _) _⟩;rw[t.o];simp[Zh,results77,go_sem]
   all_goals
    have u:Ze<|(aq s<|k+1).dropWhile bW=(aq s n).dropWhile bW:=IX b o.o (by unfold bW;simp at b1 b2 b3 ⊢;omega);clear o;try (exfalso;simp at b1 b2 b3;omega)
   all_goals
    go_wp2_with fail;go_round
    case rel=>exact⟨k+1,by omega,by omega,by go_num,u⟩
    case measure=>simp[Zk];omega
  go_wp2_with fail;refine VI (v:=.tuple #[.agg #[.int .u8 101,.string ⟨#[]⟩,.int .i64 0],.int .i64 k]) ?_ rfl ⟨k,?_,by omega,by omega,?_,(VM _ _).alloc (VR _) _⟩
  .simp[Zh,results77,go_sem]
  .unfold aO;rw[<-o.o,gK s k<|by omega];rfl
  unfold aO;rw[<-o.o,gK s k<|by omega];rfl
