import Derived.Test.YtojdpjpldokjmaaGreatDoorC16
import Derived.Test.YtojdpjpldokjmaaGreatDoorC14
set_option maxHeartbeats 0
set_option maxRecDepth 100000
set_option linter.all false
namespace Go.Proofs.YtojdpjpldokjmaaGreatDoor
open Go.Deep Go.RowKit Tryz
open Go renaming World->Za,Value->Zb,Calls->Zc,TypeId->Zf,callFunc->Zi
open RowKit renaming Below->Zd,Hid->Ze,intOf->Zk
variable{I J:YW}{K:aI}{W w:World}{X Y:YX}{i j k n:Nat}{A B u z:Value}{G H:Y7}{F:YY}{R:aA}{N O:List YW}{o p:YZ}
def eG(t:bV):YX:=[67,82,69,65,84,69,32,84,65,66,76,69,32]++t.name++[32]++eD (t.a.map bM)++[10]
def py(t:bV):dH t=eG t++(t.rows.map<|dC t.name).flatten:=by simp[dH,eG]
def rp{l:List YX}(h:∀x∈l,x.length<=100)(a:l.length<=5):(eD l).length<=600:=by have:=kC l h;simp[eD];omega
def yQ{t:bV}(h:ij t):(eD<|t.a.map bM).length<=600:=rp (λx b=>by obtain⟨c,a,rfl⟩:=VV.1 b;exact nU (h.a c a).2) (by rw[VL];exact h.b)
def oQ{t:bV}(h:ij t):(eG t).length<=1000:=by have:=yQ h;have:=h.name;simp[eG];omega
def oE{t:bV}(h:ij t)(c:I∈t.rows):I.length<=5/\∀x∈I,dv x:=by obtain⟨a,b,_⟩:=h.rows I c;have:=h.b;refine⟨?_,b⟩;rw[a];simpa[ax]using this
def zF{t:bV}(h:ij t)(a:I∈t.rows):(eD<|I.map aS).length<=600:=rp (λx d=>by obtain⟨c,b,rfl⟩:=VV.1 d;exact mh<|(oE h a).2 c b) (by rw[VL];exact(oE h a).1)
def sV{t:bV}(h:ij t)(a:I∈t.rows):(dC t.name I).length<=1000:=by have:=zF h a;have:=h.name;simp[dC];omega
def sB{m:Nat}:∀l:List YX,(∀x∈l,x.length<=m)->l.flatten.length<=l.length*m
 |[],_=>by simp
 |x::r,h=>by have b:=h x (by simp);have c:=sB r λy a=>h y (by simp[a]);simp only[Yo,VH,Wk,Xp];omega
def sW{t:bV}(h:ij t)(j:Nat):(((t.rows.take j).map<|dC t.name).flatten).length<=25000:=by have a:=sB (m:=1000) ((t.rows.take j).map<|dC t.name) (λx d=>by obtain⟨c,b,rfl⟩:=VV.1 d;exact sV h<|Wr b);have e:=h.d;rw[VL,Wl]at a;have:min j t.rows.length*1000<=25*1000:=Wy _ (by omega);omega
def BW{t:bV}(h:ij t):(dH t).length<=26000:=by have a:=sW h t.rows.length;have b:=oQ h;rw[Wj]at a;rw[py,VH];omega
def zw(h:ec K)(i:Nat):(((K.take i).map dH).flatten).length<=200000:=by have a:=sB (m:=26000) ((K.take i).map dH) (λx d=>by obtain⟨c,b,rfl⟩:=VV.1 d;exact BW<|h.2 c<|Wr b);have e:=h.1;rw[VL,Wl]at a;have:min i K.length*26000<=6*26000:=Wy _ (by omega);omega
def Ir{d:Y_}:(Zi 38 d).run prog w=.ok (.enter 38 d) w:=by
 have g:(f38.name == "runtime.NumGoroutine")=false:=by kernel_rfl
 have c: f38.body.isNone=false:=by kernel_rfl
 have a:¬f38.name = "runtime.NumGoroutine":=by simpa using g
 have b:¬f38.body=none:=by intro e;rw[e]at c;cases c
 simp[Zi,go_sem,func38,a,b]
def Is{d:Y_}:(Zi 40 d).run prog w=.ok (.enter 40 d) w:=by
 have g:(f40.name == "runtime.NumGoroutine")=false:=by kernel_rfl
 have c: f40.body.isNone=false:=by kernel_rfl
 have a:¬f40.name = "runtime.NumGoroutine":=by simpa using g
 have b:¬f40.body=none:=by intro e;rw[e]at c;cases c
 simp[Zi,go_sem,func40,a,b]
def C8{d:Y_}:(Zi 37 d).run prog w=.ok (.enter 37 d) w:=by
 have g:(f37.name == "runtime.NumGoroutine")=false:=by kernel_rfl
 have c: f37.body.isNone=false:=by kernel_rfl
 have a:¬f37.name = "runtime.NumGoroutine":=by simpa using g
 have b:¬f37.body=none:=by intro e;rw[e]at c;cases c
 simp[Zi,go_sem,func37,a,b]
def SJ(n c:YX):(((({data:=#[67,82,69,65,84,69,32,84,65,66,76,69,32]}:Y9)++{data:=n.toArray})++{data:=#[32]})++{data:=c.toArray})++{data:=#[10]}=⟨([67,82,69,65,84,69,32,84,65,66,76,69,32]++n++[32]++c++[10]).toArray⟩:=by rw[show(#[67,82,69,65,84,69,32,84,65,66,76,69,32]:Array UInt8)=[67,82,69,65,84,69,32,84,65,66,76,69,32].toArray from rfl,show(#[32]:Array UInt8)=[32].toArray from rfl,show(#[10]:Array UInt8)=[10].toArray from rfl];rw[jZ,jZ,jZ,jZ]
def SK(n c:YX):(((({data:=#[73,78,83,69,82,84,32,73,78,84,79,32]}:Y9)++{data:=n.toArray})++{data:=#[32,86,65,76,85,69,83,32]})++{data:=c.toArray})++{data:=#[10]}=⟨([73,78,83,69,82,84,32,73,78,84,79,32]++n++[32,86,65,76,85,69,83,32]++c++[10]).toArray⟩:=by rw[show(#[73,78,83,69,82,84,32,73,78,84,79,32]:Array UInt8)=[73,78,83,69,82,84,32,73,78,84,79,32].toArray from rfl,show(#[32,86,65,76,85,69,83,32]:Array UInt8)=[32,86,65,76,85,69,83,32].toArray from rfl,show(#[10]:Array UInt8)=[10].toArray from rfl];rw[jZ,jZ,jZ,jZ]
def DI(w wr:Za)(l:YX):Prop:=qB w wr/\Lib.IsBuilder 86 5 w.heap.size w.heap.size (Lib.byteCells l) wr
def DG(X:mH){wr:Za}{s:YX}(h:DI w wr Y)(g:Y.length+s.length<=100000000):Zc prog 37 #[qP w.heap.size,qT s] wr λe b=>∃v,e=.returned v/\DI w b (Y++s):=
 (X.write _ _ Y s wr h.2 g h.1.size).mono λe b ⟨v,d,c,a⟩=>⟨v,d,h.1.trans a,c⟩
def tT{T e:Zf}{a:Y0}{wr:Za}(h:Lib.BuilderAt T e n k u a wr)(c:qB wr w):Lib.BuilderAt T e n k u a w:=by obtain⟨d,v,b,g,i⟩:=h;exact⟨d,v,(c.block k<|lB b).trans b,aB c g,i⟩
def DI.below{wr:Za}(h:DI w wr X)(a:qB wr W):DI w W X:=⟨h.1.trans<|a.mono h.1.size,h.2.imp (λh=>tT h a) λh=>tT h a⟩
def DI.drew{wr:Za}(h:DI w wr X):DI w wr.drew X:=h.below qW.drew
def B_.at_{l:Lay}{t:bV}(h:B_ w G l t):∃c d,l.a=.slice c t.rows.length d/\∀(j:Nat)(r:YW),t.rows[j]?=some r->∃g u,c=some ⟨g,0,none⟩/\g<w.heap.size/\w.cell? ⟨g,j,none⟩=some u/\br w w.heap.size 3 vC r u:=by
 obtain⟨⟨i,y⟩,x,_⟩:=JD h;have a:(t.rows.zip l.us).length=t.rows.length:=by rw[<-VL (f:=(·.1)),x]
 obtain⟨c,d,b⟩:=i.slice;refine⟨c,d,by rw[b,a],λj r q=>?_⟩;have n:j<(t.rows.zip l.us).length:=by rw[a];exact(VZ.1 q).1
 have o:(t.rows.zip l.us)[j]?=some (t.rows.zip l.us)[j]:=VE n;have A:(t.rows.zip l.us)[j].1=r:=by
  have k:((t.rows.zip l.us).map (·.1))[j]?=some r:=by rw[x];exact q
  rw[VO,o]at k;simpa using k
 obtain⟨g,cap,e,B,z⟩:=i.c (f:=λp=>p.2) o;rw[b]at e;cases e;refine⟨g,_,rfl,B,z,?_⟩;have:=y _<|VQ n;rw[A]at this;exact this
def Pl(w:Za)(x:YX)(v:Zb)(w':Za):Prop:=v=qT x/\qB w w'
def KF{f:Nat}{a:Y_}(h:Zc prog f a w<|qF (qT X) w):Zc prog f a w λe b=>∃v,e=.returned v/\Pl w X v b:=h.mono λe b ⟨c,d⟩=>⟨_,c,rfl,d⟩
def Uz(X:mH){E:Zn}(h:pY w G n E K)(hg:kM w):Zc prog 27 #[.pointer<|some ⟨n,0,none⟩] w λe V=>e=.returned (.string ⟨(xG K).toArray⟩)/\Zd w.heap.size w V:=by
 obtain⟨ta,tc,Q,(HA:Ze _)⟩:=h.slice;have hb:=lB Q;have c0:=bC Q 0;simp at c0;have hD:K.length<=6:=h.ok.1;have N:=Z h;have HG:=Z hg;have O:=Z X;have HS:Ze<|DI w (w.alloc<|.cells #[.pointer none,.slice none 0 0] 86) []:=⟨(VM _ _).alloc (VR _) _,Lib.fresh_isBuilder _ _ _⟩;have aA:w.heap.size=w.heap.size:=rfl;go_in;go_wp2
 go_loopw [13] (λan wr=>∃i:Nat,i<=K.length/\an=.int .i64 i/\Ze (DI w wr<|((K.take i).map dH).flatten)) (λa _=>K.length-(Zk a).toNat)
 exact⟨0,Wi _,rfl,HS⟩;obtain⟨i,hi,rfl,HI⟩:=hrel;have k:=HI.1;by_cases I:i<K.length
 ·have D:K[i]?=some K[i]:=VE I;have H:E[i]?=some (E[i]'(N.len▸I)):=VE _;generalize E[i]'(N.len▸I)=l at*;have al:Ze<|((K.take<|i+1).map dH).flatten=((K.take i).map dH).flatten++dH K[i]:=by
   unfold Ze;rw[V9,D];simp only[XV,Wc,We,Yw,XO,Yo,List.flatten_nil,WQ]
  generalize K[i]=t at*;obtain⟨g,rfl,S,e0⟩:=HA.o i l H;have e0:=(VK<|k.block g S).trans e0;unfold gC at e0;have L:=N.below k;have hT:=L.c i l t H D;obtain⟨cv,c,R,_⟩:=hT.g;obtain⟨ca,cc,rfl⟩:=bN R;have n0:=bC c 0;have n1:=bC c 1;simp at n0 n1;have A:=lB c;have b:=L.ok.2 t<|VY D;have z:Zd wr.heap.size wr wr.drew:=(VM _ _).drew;have ae:=Z<|KF<|Pt O ((HG.below k).below z) ((c7 (f:=OT) (λ_=>rfl) R<|VR _).below z) b.b b.a;have az:=zw N.ok i;have p:Ze (∀W,DI w W (((K.take i).map dH).flatten)->Zc prog 37 #[.pointer<|some ⟨w.heap.size,0,none⟩,.string ⟨(eG t).toArray⟩] W λe V=>∃v,e=.returned v/\DI w V (((K.take i).map dH).flatten++eG t)):=λW q=>DG O q (by have:=oQ b;omega);have aE:=yQ b;have ax:=b.name;have ak:=Z<|py t;have ah:=Z<|oQ b;have eh:(⟨(eG t).toArray⟩:Y9)=_:=(SJ t.name<|eD<|t.a.map bM).symm;rw[eh]at p;generalize eD (t.a.map bM)=x at*;have B:Ze (∀W,Zd w.heap.size w W->B_ W G l t):=λW q=>(N.below q).c i l t H D;have o:=Z b;have aq:g<wr.heap.size:=VT S k.size;have ab:Ze<|DI w wr.drew<|((K.take i).map dH).flatten:=HI.drew;have ay:=b.d;have a1:¬(9223372036854775807<13+t.name.length):=by omega
  have a2:¬(9223372036854775807<13+t.name.length+1):=by omega
  have a3:¬(9223372036854775807<13+t.name.length+1+x.length):=by omega
  have a4:¬(9223372036854775807<13+t.name.length+1+x.length+1):=by omega
  go_upto_region 5 with fail
  go_cut [] (λwx=>Ze<|DI w wx<|((K.take i).map dH).flatten++eG t)
  case first=>
   go_region_law (first
    | (refine dQ rfl (.tmp 26) (.func 39) rfl Ir (by simp[Act.eval,Act.put]) (by simp[Act.eval,Act.put]) ae ?_
       rintro C u⟨rfl,d⟩;have M:l.n<u.heap.size:=VT A d.size;have y:=(VK<|d.block l.n A).trans n0;have j:=Z<|ab.below d
       clear d)
    | (refine dQ rfl (.tmp 3) (.tmp 29) rfl C8 (by simp[Act.eval,Act.put]) (by simp[Act.eval,Act.put]) (p _ j) ?_
       intro F J d;have r:=Z d
       clear d))
   all_goals go_wp2_with fail
   all_goals go_meet
   all_goals exact r
  have M:=hcut;have P:=M.1;obtain⟨av,c,_,_⟩:=(B wc P).g;have m0:=bC c 0;have m2:=bC c 2;simp at m0 m2;have ar:=lB c;obtain⟨ra,rc,T,au⟩:=(B wc P).at_;rw[T]at m2;have ai:Ze (∀W,Zd w.heap.size w W->∀(j:Nat) (r:YW),t.rows[j]?=some r->∃g u,ra=some ⟨g,0,none⟩/\g<W.heap.size/\W.cell? ⟨g,j,none⟩=some u/\br W W.heap.size 3 vC r u):=λW L j r hr=>by obtain⟨C,F,d,y⟩:=(B W L).at_;rw[T]at d;cases d;exact y j r hr
  have ad:Ze (∀W,Zd w.heap.size w W->W.cell? ⟨l.n,0,none⟩=some (.string ⟨t.name.toArray⟩)/\l.n<W.heap.size):=λW L=>by obtain⟨y,d,_,_⟩:=(B W L).g;have:=bC d 0;simp at this;exact⟨this,lB d⟩
  generalize ((K.take i).map dH).flatten=pre at*;have ag:Ze<|(pre++eG t).length<=300000:=by unfold Ze;have:=ah.o;rw[VH];omega
  generalize eG t=hd at*;go_wp2
  go_loopw [36] (λao ap=>∃j:Nat,j<=t.rows.length/\ao=.int .i64 j/\Ze (DI w ap<|pre++hd++((t.rows.take j).map<|dC t.name).flatten)) (λa _=>t.rows.length-(Zk a).toNat)
  exact⟨0,Wi _,rfl,by simpa[Ze]using M.o⟩;obtain⟨j,hj,rfl,HJ⟩:=hrel;have F:=HJ.1;by_cases am:j<t.rows.length
  ·have J:t.rows[j]?=some t.rows[j]:=VE am;have aj:Ze<|((t.rows.take<|j+1).map<|dC t.name).flatten=((t.rows.take j).map<|dC t.name).flatten++dC t.name t.rows[j]:=by
    unfold Ze;rw[V9,J];simp only[XV,Wc,We,Yw,XO,Yo,List.flatten_nil,WQ]
   have d:=VY J;have aD:=zF o d;have aB:=sV o d;have aC:=sW o j;obtain⟨g2,u2,rfl,aw,e2,U⟩:=ai.o _ F j _ J;obtain⟨k0,A⟩:=ad.o _ F;have z:Zd wr.heap.size wr wr.drew:=(VM _ _).drew;have af:=Z<|KF<|Pu O ((HG.below F).below z) (U.below z) (oE o d).1 (oE o d).2;have p:Ze (∀W,DI w W (pre++hd++((t.rows.take j).map<|dC t.name).flatten)->Zc prog 37 #[.pointer<|some ⟨w.heap.size,0,none⟩,.string ⟨(dC t.name t.rows[j]).toArray⟩] W λe V=>∃v,e=.returned v/\DI w V (pre++hd++((t.rows.take j).map<|dC t.name).flatten++dC t.name t.rows[j])):=λW q=>DG O q (by have:=ag.o;rw[VH];omega);have eh:(⟨(dC t.name t.rows[j]).toArray⟩:Y9)=_:=(SK t.name<|eD<|t.rows[j].map aS).symm;rw[eh]at p;obtain⟨ua,uc,rfl⟩:=U.slice;generalize eD (t.rows[j].map aS)=y at*;generalize t.rows[j]=r at*;have ac:=Z HJ.drew;have b1:¬(9223372036854775807<12+t.name.length):=by omega
   have b2:¬(9223372036854775807<12+t.name.length+8):=by omega
   have b3:¬(9223372036854775807<12+t.name.length+8+y.length):=by omega
   have b4:¬(9223372036854775807<12+t.name.length+8+y.length+1):=by omega
   go_upto_region 9 with fail
   go_region_law (first
    | (refine dQ rfl (.tmp 46) (.func 41) rfl Is (by simp[Act.eval,Act.put]) (by simp[Act.eval,Act.put]) af ?_
       rintro v3 w3⟨rfl,C⟩;have z3:l.n<w3.heap.size:=VT A C.size;have o0:=(VK<|C.block l.n A).trans k0;have Y:=Z<|ac.below C
       clear C)
    | (refine dQ rfl (.tmp 3) (.tmp 49) rfl C8 (by simp[Act.eval,Act.put]) (by simp[Act.eval,Act.put]) (p _ Y) ?_
       intro v4 w4 C;have aa:=Z C
       clear C))
   all_goals
    have C:Ze<|DI w w4<|pre++hd++((t.rows.take<|j+1).map<|dC t.name).flatten:=by unfold Ze;rw[aj,<-Wh];exact aa
    go_wp2;go_roundw;exact⟨j+1,by omega,by go_num,C⟩
    case measure=>simp[Zk];omega
  obtain rfl:j=t.rows.length:=by omega
  have d:Ze<|DI w wr<|((K.take<|i+1).map dH).flatten:=by unfold Ze;have:=HJ.o;rw[Wj,Wh,<-ak,<-al]at this;exact this
  go_wp2;go_roundw;exact⟨i+1,by omega,by go_num,d⟩;simp[Zk];omega
 obtain rfl:i=K.length:=by omega
 have g:Ze<|xG K=(K.map dH).flatten:=rfl;have d:=Z<|O.str _ _ _ wr HI.2 k.size;rw[Wj]at d;have b:=Z k;go_wp2_with fail;refine d.mono ?_;rintro e j⟨rfl,c⟩;go_wp2;go_ret;exact⟨i5<|by rw[g],Z<|b.trans c⟩
structure Pb(w:Za)(M:Y7):Prop where
 g:kM w
 not:∀k,k=5\/k=2\/k=0->¬M k
def Pb.step(h:Pb w G)(a:pE w G W H):Pb W H:=
 ⟨h.g.aL λk hk=>a.aL.block k ⟨h.g.c k hk,h.not k hk⟩,λk hk=>a.not (h.g.c k hk)<|h.not k hk⟩
def Pb.new(h:kM w):Pb (w.alloc Io)<|N8 w.heap.size:=
 ⟨h.below<|(VM _ _).alloc (VR _) _,λk hk e=>by
  have b:=h.c k hk;have a:k=w.heap.size:=e
  omega⟩
def gD(l:List YW)(n:Nat)(o:aV<|List YW×Nat):aV<|List YW×Nat:=match o with
 |.error e=>.error e
 |.ok z=>.ok (l++z.1,n+z.2)
def rV(o:aV<|List YW×Nat):gD [] 0 o=o:=by
 cases o with
 |error e=>rfl
 |ok z=>simp[gD]
def yH{a:Y4}{b:Y6}{e:Nat}(h:bZ F I R=.error e):gD O n (cV F R a b<|I::N)=.error e:=by rw[cV,h];rfl
def Ap{a:Y4}{b:Y6}{x:ai}(h:bZ F I R=.ok x)(c:¬x=bh true):gD O n (cV F R a b<|I::N)=gD (O++[I]) n (cV F R a b N):=by
 rw[cV,h];simp only;rw[VF c];cases cV F R a b N with
 |error e=>rfl
 |ok z=>simp[gD]
def vZ{a:Y4}{b:Y6}{e:Nat}{x:ai}(h:bZ F I R=.ok x)(d:x=bh true)(c:gO F I I a b=.error e):gD O n (cV F R a b<|I::N)=.error e:=by rw[cV,h];simp only;rw[VG d,c];rfl
def yI{a:Y4}{b:Y6}{x:ai}(h:bZ F I R=.ok x)(d:x=bh true)(c:gO F I I a b=.ok J):gD O n (cV F R a b<|I::N)=gD (O++[J]) (n+1) (cV F R a b N):=by
 rw[cV,h];simp only;rw[VG d,c];simp only;cases cV F R a b N with
 |error e=>rfl
 |ok z=>simp[gD];omega
def Od{e:Zf}{c i:Nat}{a:Y0}{u:Zb}(h:w.ownsRow k e 1 (qL j n c) n a):(w.setCell ⟨j,i,none⟩ u).ownsRow k e 1 (qL j n c) n<|a.set i u:=by
 obtain⟨g,l⟩:=h;obtain⟨d,_⟩|⟨y,cap,b,x,o,q,p,r,hs,t⟩:=l
 .cases d
 cases x;refine⟨by rw[Wu];exact g,.inr ⟨j,c,_,rfl,o,bS q _ _,p,r,by simp[hs],?_⟩⟩;rw[<-t];simp[List.take_set]
def tH{g o:Nat}{e:Zf}{v u:Zb}{b:Y0}(h:w.ownsRow i e j v n b)(c:∀k,v.ownBlock=some k->k≠g):(w.setCell ⟨g,o,none⟩ u).ownsRow i e j v n b:=
 cN h (λk a=>VN _ _ _ _<|c k a)
def Bz{o:Nat}{e:Zf}{a:Nat}{v:Zb}{x:ai}{c:Y0}(h:w.ownsRow i e a v n c)(b:∀k,v.ownBlock=some k->k≠j):(xB w j o x).ownsRow i e a v n c:=
 tH (tH (tH h b) b) b
def MF(B:Nat)(wr:Za)(qs:YZ)(q:au):Prop:=wr.ownsRow 0 34 3 q.2 q.1.length (c_ q.1)/\(q∈qs\/∀k,q.2.ownBlock=some k->B<=k)
structure Rl(w0 wr:Za)(ab:YY)(c:aA)(ks:Y4)(ts:Y6)(qs:YZ)(i:Nat)(v:Zb)(lG:Nat)(done:YZ):Prop where
 d:qB w0 wr
 own:wr.ownsRow w0.heap.size 32 1 v qs.length<|df<|done++qs.drop i
 len:done.length=i
 each:∀q∈done,MF w0.heap.size wr qs q
 go:cV ab c ks ts (qs.map (·.1))=gD (done.map (·.1)) lG (cV ab c ks ts<|(qs.drop i).map (·.1))
 a:lG<=i
def Rl.below{wr:Za}{c:Y4}{d:Y6}{i:Nat}{v:Zb}{done:YZ}(h:Rl w wr F R c d o i v n done)(a:qB wr W):Rl w W F R c d o i v n done:=
 ⟨h.d.trans<|a.mono h.d.size,aB a h.own,h.len,λq b=>⟨aB a (h.each q b).1,(h.each q b).2⟩,h.go,h.a⟩
structure Pj(w0 wr:Za)(ab:YY)(ks:Y4)(ts:Y6)(qs:YZ)(i j:Nat)(v nv:Zb)(r cur:YW)(done:YZ):Prop where
 d:qB w0 wr
 own:wr.ownsRow w0.heap.size 32 1 v qs.length<|df done++nv::df (qs.drop<|i+1)
 row:wr.ownsRow w0.heap.size 34 3 nv cur.length<|c_ cur
 a:cur.length=r.length
 len:done.length=i
 each:∀q∈done,MF w0.heap.size wr qs q
 sep:∀q∈done,∀k,q.2.ownBlock=some k->nv.ownBlock≠some k
 set:gO ab r r ks ts=gO ab r cur (ks.drop j) (ts.drop j)
def Pj.below{wr:Za}{c:Y4}{d:Y6}{i:Nat}{v:Zb}{done:YZ}(h:Pj w wr F c d o i j v u I J done)(a:qB wr W):Pj w W F c d o i j v u I J done:=
 ⟨h.d.trans<|a.mono h.d.size,aB a h.own,aB a h.row,h.a,h.len,λq b=>⟨aB a (h.each q b).1,(h.each q b).2⟩,h.sep,h.set⟩
def Pj.put{wr:Za}{d:Y4}{l:Y6}{g c:Nat}{v:Zb}{done:YZ}{x:ai}(h:Pj w wr F d l o i j v (qL g n c) I J done)(z:k<J.length)(p:d.drop j=k::d.drop (j+1))(t:l.drop j=R::l.drop (j+1))(B:bZ F I R=.ok x):
 Pj w (xB wr g (k*3) x) F d l o i (j+1) v (qL g n c) I (J.set k x) done:=by
 obtain⟨C,m,y⟩:=eX h.row (k:=g) rfl;have a:=(h.row.lt g rfl).1;refine⟨((h.d.setCell a _).setCell a _).setCell a _,Bz h.own λu b=>?_,BA h.row z,by rw[Wu];exact h.a,h.len,λq r=>⟨Bz (h.each q r).1 λu b e=>h.sep q r u b (by rw[e];rfl),(h.each q r).2⟩,h.sep,?_⟩
 .obtain⟨D,E,A⟩:=eX h.own b;exact gZ A y<|by decide
 .rw[h.set,p,t,gO,B]
def J1(w:Za)(qs:YZ)(o:aV<|List YW×Nat)(e:Ending)(w':Za):Prop:=qB w w' /\
 ((∃er:Nat,o=.error er/\(er=4\/er=5)/\e=.returned (.tuple #[qN,qI 0,qI (er:Nat)])) \/
  (∃(done:YZ) (v:Zb) (lG:Nat),o=.ok (done.map (·.1),lG)/\e=.returned (.tuple #[v,qI (lG:Nat),qI 0])/\w'.ownsRow w.heap.size 32 1 v done.length (df done)/\(∀q∈done,MF w.heap.size w' qs q)/\(qs=[]->v=qN)/\done.length=qs.length))
def Oc{v:Zb}(h:w.ownsRow n 34 3 v I.length<|c_ I)(e:I≠[]):oJ w w.heap.size I v:=by
 obtain⟨rfl,d⟩|⟨g,cap,c,rfl,k,b,l,o,hs,j⟩:=h.2
 .exact absurd (V3.1 d) e
 refine⟨g,cap,rfl,lB b,λi u a=>?_⟩;rw[bC b];rw[<-j,V6]at a;split at a
 .simpa using a
 cases a
def MW(X:dD){d:YZ}{b:List Sg}(hm:rO w w.heap.size d z)(a3:∀q∈d,w.ownsRow 0 34 3 q.2 q.1.length<|c_ q.1)(az:d=[]->z=qN)(aG:br w w.heap.size 2 KC b A)(a6:∀s∈b,i7 w w.heap.size F s.2.1 s.2.2)(hp:i7 w w.heap.size F R B)(hf:gR F R)(a4:∀s∈b,gR F s.2.1)(aD:∀q∈d,ke F q.1/\q.1.length=F.length)(aY:F≠[])(a0:∀s∈b,s.1<F.length)(hl:d.length<=1000)(bu:b.length<=1000)(bj:F.length<=1000):
 Zc prog 109 #[z,A,.agg #[B]] w (J1 w d<|cV F R (places b) (b.map λs=>s.2.1)<|d.map (·.1)):=by
 obtain⟨ra,rc,rfl⟩:=hm.1.slice;obtain⟨sa,sc,rfl⟩:=aG.slice;obtain⟨Q,T,S,rfl⟩:=hp.slice;have au:qB w<|w.alloc<|.cells #[.slice Q T S] 204:=qA;have a8:(w.alloc<|.cells #[.slice Q T S] 204).heap[w.heap.size]?=some (.cells #[.slice Q T S] 204):=aM _ _;have bw:w.heap.size<(w.alloc<|.cells #[.slice Q T S] 204).heap.size:=by simp
 have O:Ze (Zc prog 167 #[.slice ra d.length rc] (w.alloc<|.cells #[.slice Q T S] 204) λe w'=>∃v,e=.returned v/\Rl (w.alloc<|.cells #[.slice Q T S] 204) w' F R (places b) (b.map λs=>s.2.1) d 0 v 0 []/\(d=[]->v=qN)):=by
  by_cases k:d=[]
  .subst k;have e:=az rfl;simp only[WR]at e ⊢;rw[e];apply qS<|C1 _;exact⟨_,rfl,⟨qW,VP _ _ _ _,rfl,λq k=>by simp at k,by simp[rV],qZ⟩,λ_=>rfl⟩
  have p:=hm.below au;obtain⟨C,D,e,t⟩:=p.1;cases e;obtain⟨g,rfl,y,c⟩:=t k;have hs:(df d).length=d.length:=by simp[df]
  have:=AA (df d) ⟨g,0,none⟩ rc (w.alloc<|.cells #[.slice Q T S] 204) (λj u n=>?_) (λ_=>y) (λu r=>?_) (by rw[hs];omega)
  .rw[hs]at this;refine this.mono ?_;rintro e w'⟨x,v,rfl,l⟩;exact⟨v,rfl,⟨x,by simpa using l,rfl,λq k=>by simp at k,by simp[rV],qZ⟩,λh=>absurd h k⟩
  .rw[addr_add];unfold df at n;rw[VO]at n;obtain⟨q,h,rfl⟩:=Xh.1 n;have:=c j q h 0 _ rfl;simpa using this
  unfold df at r;obtain⟨q,h,rfl⟩:=VV.1 r;obtain⟨a,R,e⟩:=(hm.2 q h).slice;rw[e];rfl
 generalize ho:cV F R (places b) (b.map λs=>s.2.1) (d.map (·.1))=o;have HO:=Z ho;have HM:=Z hm;have P:=Z a3;have aR:=Z aG;have an:=Z a6;have HP:=Z hp;have aQ:=Z a4;have M:=Z aD;have aO:=Z a0;have I:=Z au;have ap:=Z a8;go_in;go_wp2;go_step3;go_wp2_with refine O.mono ?_;rintro e w1⟨v1,rfl,(ag:Ze _),(aN:Ze _)⟩;obtain⟨va,vn,Y,rfl⟩:=aF ag.own;generalize bv:w.alloc (.cells #[.slice Q T S] 204)=w0 at*;go_wp2;go_step3;go_wp2
 go_loopw [10,23] (λa9 a_ wr=>∃(i lG:Nat) (done:YZ),i<=d.length/\a_=qI (i:Nat)/\a9=qI (lG:Nat)/\lG<=i/\Ze (Rl w0 wr F R (places b) (b.map λs=>s.2.1) d i (.slice va vn Y) lG done)) (λ_ a _=>d.length-(Zk a).toNat)
 exact⟨0,0,[],qO,rfl,rfl,qZ,ag⟩
 case round=>
  obtain⟨i,lG,done,bo,rfl,rfl,be,L⟩:=hrel;have ax:=L.d;have u:qB w wr:=I.trans<|ax.mono I.size;have W:wr.heap[w.heap.size]?=some (.cells #[.slice Q T S] 204):=(ax.block _<|lB ap).trans ap;have bx:=bC W;have C:=lB W;by_cases ae:i<d.length
  .have aZ:d[i]?=some d[i]:=VE ae;have HD:Ze<|d.drop i=d[i]::d.drop (i+1):=VJ ae;have H:=VQ ae;generalize d[i]=p at*;obtain⟨l,pv⟩:=p;obtain⟨g,cap,he,hg,D⟩:=(HM.1.aL λk hk=>u.block k hk).c aZ;cases he;have bn:g<wr.heap.size:=VT hg u.size;obtain⟨qa,qc,a2⟩:∃a R,pv=.slice a l.length R:=(HM.2 _ H).slice;subst a2;have c:=Z<|IC X (HP.below u) ((HM.2 _ H).below u) hf (M _ H).1;simp only at D;have n:=Z H;cases hev:bZ F l R with
   |error j=>
    have x:((j:Int) != 0)=true:=by have:=jc hev;simp;omega
    have h:=Z<|jc hev;simp only at c;rw[hev]at c;have t:Ze<|o=.error j:=by rw[Ze,<-HO,L.go,HD];exact yH hev
    simp only[uh]at c;go_wp2_with fail;apply qR c;intro y r;go_wp2
    (try rw[Exit.noGoto_ret])
    go_ret3;exact⟨Z<|u.trans<|r.mono u.size,.inl ⟨j,t,h,rfl⟩⟩
   |ok x=>
    simp only at c;rw[hev]at c;simp only[uh]at c;have aa:=Z hev;by_cases hx:x=bh true
    ·rw [ai.d hx]at c;have aq:=Z hx;go_wp2_with fail;apply qR c;intro w2 t;have r:=L.below t;have h:qB w w2:=u.trans<|t.mono u.size;have y:l.length=F.length:=(M _ n).2;have a1:0<l.length:=by
      rw[y];exact YN.2 aY
     have j:l≠[]:=YN.1 a1;have aC:l.length<=1000:=by omega
     have aP:=Z y;have aK:=Z<|Ie (Oc (cN (P _ n) λk hk=>h.block k ((P _ n).lt k hk).2) j) aC;have aj:=Z r;have ar:=r.d.size;clear t c r h bx C D y j;go_wp2_with refine aK.mono ?_;rintro e w3⟨aS,v3,rfl,D⟩;obtain⟨E,K,rfl⟩:∃E K,v3=qL E l.length K:=by
      obtain⟨_,C⟩|⟨E,K,_,h,_⟩:=D.2
      .omega
      exact⟨E,K,h⟩
     have t:=aj.below aS;obtain⟨J,c9,y,a7,N,bt⟩:∃J c9 y,Zb.slice va vn Y=qL J d.length c9/\w3.heap[J]?=some (.cells y 32 (0,0))/\d.length<=y.size:=by
      obtain⟨_,C⟩|⟨J,c9,y,h,G,hg,U,hm,hs,V⟩:=t.own.2
      .omega
      exact⟨J,c9,y,h,hg,by omega⟩
     cases a7;have bk:w3.cell? ⟨J,i,none⟩=some y[i]:=by rw[bC N];simp
     have bm:=bF N i;have bz:=lB N;have bp:(i:Int)<(d.length:Nat):=by omega
     have ak:Ze<|Pj w0 (w3.setCell ⟨J,i,none⟩<|qL E l.length K) F (places b) (b.map λs=>s.2.1) d i 0 (qL J d.length Y) (qL E l.length K) l l done:=by
      have hB:w0.heap.size<=J:=(t.own.lt J rfl).1;refine⟨t.d.setCell hB _,?_,bU (tH D λk hk e=>?_) ar,rfl,t.len,λq G=>⟨tH (t.each q G).1 λk hk e=>?_,(t.each q G).2⟩,λq G k hk e=>?_,by simp⟩
      ·have h:=Od (i:=i) (u:=qL E l.length K) t.own;rw[HD]at h;have e:(df<|done++(l,Zb.slice qa l.length qc)::d.drop (i+1)).set i (qL E l.length K)=df done++qL E l.length K::df (d.drop<|i+1):=by
        unfold df;rw[Wc,We,Ws _ _ (by rw[VL,t.len];exact qZ)];rw[VL,t.len,XL,XA]
       rw[e]at h;exact h
      .subst e;obtain⟨C,m,h⟩:=eX D hk;exact gZ h N (by decide) rfl
      .subst e;obtain⟨C,m,h⟩:=eX (t.each q G).1 hk;exact gZ h N (by decide) rfl
      have h:=((aj.each q G).1.lt k hk).2;have C:=(D.lt k e).1;omega
     go_wp2
     go_loopw [48] (λba bb=>∃(j:Nat) (r:YW),j<=b.length/\ba=qI (j:Nat)/\Ze (Pj w0 bb F (places b) (b.map λs=>s.2.1) d i j (qL J d.length Y) (qL E l.length K) l r done)) (λa _=>b.length-(Zk a).toNat)
     exact⟨0,l,qO,rfl,ak⟩;obtain⟨j,r,bq,rfl,HJ⟩:=hrel;have C:qB w wr:=I.trans<|HJ.d.mono I.size;by_cases U:j<b.length
     ·have a5:b[j]?=some b[j]:=VE U;have V:=VQ U;have am:Ze<|(places b).drop j=b[j].1::(places b).drop (j+1):=by
       unfold Ze places;rw[<-Xq,<-Xq,VJ U];rfl
      have ao:Ze<|(b.map λs=>s.2.1).drop j=b[j].2.1::(b.map λs=>s.2.1).drop (j+1):=by unfold Ze;rw[<-Xq,<-Xq,VJ U];rfl
      generalize b[j]=s at*;obtain⟨k,st,su⟩:=s;obtain⟨gs,bc,aV,aW,s0,s1⟩:=(aR.aL λk hk=>C.block k hk).q a5;cases aV;have bf:gs<wr.heap.size:=VT aW C.size;obtain⟨pa,pn,pc,aE⟩:=(an _ V).slice;simp only at aE s0 s1;subst aE;have ab:qB wr<|wr.alloc<|.cells #[qI (k:Nat),.slice pa pn pc] 275:=qA;have c:=Z<|runT X (((an _ V).below C).below ab) (((HM.2 _ n).below C).below ab) (aQ _ V) (M _ n).1;have aX:k<l.length:=by rw[aP];exact aO _ V
      have af:=Z ab;simp only at c;cases hev:bZ F l st with
      |error G=>
       have bl:((G:Int) != 0)=true:=by have:=jc hev;simp;omega
       rw[hev]at c;have HE:Ze<|o=.error G:=by unfold Ze;rw[<-HO,L.go,HD];refine vZ aa aq ?_;rw[HJ.set,am,ao,gO,hev]
       simp only[jW,KN]at c;go_wp2_with fail;apply qR c;intro w5 aT;have h:=Z<|(C.trans<|af.mono C.size).trans<|aT.mono (by have:=C.size;simp;omega);go_wp2
       (try rw[Exit.noGoto_ret])
       go_ret3;exact⟨h.alloc h.size _,.inl ⟨G,HE,Z<|jc hev,rfl⟩⟩
      |ok xv=>
       rw[hev]at c;simp only[jW,KN]at c;have ah:=Z hev;go_wp2_with fail;apply qR c;intro w5 av;have aH:w5.heap[wr.heap.size]?=some (.cells #[qI (k:Nat),.slice pa pn pc] 275):=(av.block _<|by simp).trans<|aM _ _;have aw:qB w5<|w5.alloc<|.cells #[qI xv.aC,qI xv.n,qT xv.s] 34:=qA;have h:=((HJ.below af).below av).below aw;have aI:=(aw.block _<|lB aH).trans aH;have aJ:(w5.alloc<|.cells #[qI xv.aC,qI xv.n,qT xv.s] 34).heap[w5.heap.size]?=some (.cells #[qI xv.aC,qI xv.n,qT xv.s] 34):=aM _ _;go_upto_region 17 with fail
       generalize w5.alloc (.cells #[qI xv.aC,qI xv.n,qT xv.s] 34)=W6 at*;have x0:=bC aI;have y0:=bC aJ;simp at x0;have xz:=lB aI;have yz:=lB aJ;obtain⟨bg,aU⟩:=iJ h.own;have o9:=aU i (qL E l.length K) (by rw[VW<|by simp[df,h.len]];simp[df,h.len]);have G:=h.row;rw[h.a]at G;obtain⟨bi,ac⟩:=iJ G;have ay:=kB r;rw[h.a]at ay;have r0:=ac (k*3) _<|VE (show k*3<(c_ r).length by omega);have r1:=ac (k*3+1) _<|VE (show k*3+1<(c_ r).length by omega);have r2:=ac (k*3+2) _<|VE (show k*3+2<(c_ r).length by omega);obtain⟨bd,ad⟩:=xu G E rfl;have f0:=bF ad<|k*3;have f1:=bF ad<|k*3+1;have f2:=bF ad<|k*3+2;have bs:(k:Int)<(l.length:Nat):=by omega
       have al:Ze<|Pj w0 (xB W6 E (k*3) xv).drew F (places b) (b.map λs=>s.2.1) d i (j+1) (qL J d.length Y) (qL E l.length K) l (r.set k xv) done:=(h.put (h.a▸aX) am ao ah).below qW.drew;unfold xB at al;generalize (c_ r)[k*3]'_=u0 at*;generalize (c_ r)[k*3+1]'_=u1 at*;generalize (c_ r)[k*3+2]'_=u2 at*;go_region;all_goals go_wp2_with fail
       all_goals
        go_roundw;exact⟨j+1,_,by omega,by go_num,al⟩
        case measure=>simp[Zk];omega
     obtain rfl:j=b.length:=by omega
     have aL:Ze<|Rl w0 wr F R (places b) (b.map λs=>s.2.1) d (i+1) (qL J d.length Y) (lG+1)<|done++[(r,qL E l.length K)]:=by
      have h:=HJ.o;have V:gO F l l (places b) (b.map λs=>s.2.1)=.ok r:=by rw[h.set,Wt<|by simp[places]];rfl
      refine⟨h.d,?_,by rw[VH,h.len];rfl,λq G=>?_,?_,by omega⟩
      .have:=h.own;simpa[df]using this
      .obtain G|G:=V1.1 G
       .exact h.each q G
       simp at G;subst G;exact⟨bU h.row qO,.inr λk hk=>(h.row.lt k hk).1⟩
      rw[L.go,HD,Wc];exact yI aa aq V
     go_wp2;go_roundw;exact⟨i+1,lG+1,_,by omega,by go_num,by go_num,by omega,aL⟩;simp[Zk];omega
    rw[ai.g hx]at c;have y:=Z hx;go_wp2_with fail;apply qR c;intro E r;have t:Ze<|Rl w0 E F R (places b) (b.map λs=>s.2.1) d (i+1) (.slice va vn Y) lG<|done++[(l,.slice qa l.length qc)]:=by
     have h:=L.below r;refine⟨h.d,?_,by rw[VH,h.len];rfl,λq j=>?_,?_,by omega⟩
     .have:=h.own;rw[HD]at this;simpa[df]using this
     .obtain j|j:=V1.1 j
      .exact h.each q j
      simp at j;subst j;exact⟨aB r<|cN (P _ n) λk hk=>u.block k ((P _ n).lt k hk).2,.inl n.o⟩
     rw[h.go,HD,Wc];exact Ap aa y
    go_wp2;go_roundw;exact⟨i+1,lG,_,by omega,by go_num,rfl,by omega,t⟩;simp[Zk];omega
  obtain rfl:i=d.length:=by omega
  have l:Ze<|o=.ok (done.map (·.1),lG):=by rw[Ze,<-HO,L.go,Wa];simp[cV,gD]
  have c:Ze<|wr.ownsRow w.heap.size 32 1 (.slice va vn Y) done.length<|df done:=by have:=L.own;rw[Wa,WQ]at this;rw[L.len];exact bU this I.size
  have g:Ze (∀q∈done,MF w.heap.size wr d q):=λq j=>⟨(L.each q j).1,(L.each q j).2.imp id λh k hk=>Wf I.size<|h k hk⟩;go_wp2
  (try rw[Exit.noGoto_ret])
  go_ret3;exact⟨u,.inr ⟨done,_,lG,l,rfl,c,g,aN,L.len⟩⟩
def AO{s:aX}(h:bO K s.table=none):cS K s=(K,di 2):=by unfold cS;rw[h]
def AP{s:aX}(h:bO K s.table=some i)(a:b_ (ak K i) [] s.c=.error n):cS K s=(K,di n):=by unfold cS;rw[h];simp only[a]
def AQ{s:aX}{c:Y4}(h:bO K s.table=some i)(a:b_ (ak K i) [] s.c=.ok c)(b:aT (ax (ak K i).name<|ak K i) (aK s.d) 3=some n):cS K s=(K,di n):=by unfold cS;rw[h];simp only[a,b]
def uZ{s:aX}{a:Y4}(h:bO K s.table=some i)(b:b_ (ak K i) [] s.c=.ok a)(c:aT (ax (ak K i).name<|ak K i) (aK s.d) 3=none)(d:cV (ax (ak K i).name<|ak K i) (aK s.d) a (s.c.map (·.aW)) (ak K i).rows=.error n):cS K s=(K,di n):=by unfold cS;rw[h];simp only[b,c,d]
def AR{s:aX}{a:Y4}{z:List YW×Nat}(h:bO K s.table=some i)(b:b_ (ak K i) [] s.c=.ok a)(c:aT (ax (ak K i).name<|ak K i) (aK s.d) 3=none)(d:cV (ax (ak K i).name<|ak K i) (aK s.d) a (s.c.map (·.aW)) (ak K i).rows=.ok z):cS K s=(cm K i z.1,⟨[],z.2,0⟩):=by unfold cS;rw[h];simp only[b,c,d]
def FJ{d:Y_}:(Zi 109 d).run prog w=.ok (.enter 109 d) w:=by
 have g:(f109.name == "runtime.NumGoroutine")=false:=by kernel_rfl
 have c: f109.body.isNone=false:=by kernel_rfl
 have a:¬f109.name = "runtime.NumGoroutine":=by simpa using g
 have b:¬f109.body=none:=by intro e;rw[e]at c;cases c
 simp[Zi,go_sem,func109,a,b]
def Ro(W:Za)(qs:YZ)(o:aV<|List YW×Nat)(v:Zb)(w':Za):Prop:=∃(a:Y8)(m c lG er:Nat),v=.tuple #[.slice a m c,qI (lG:Nat),qI (er:Nat)]/\qB W w' /\
 ((o=.error er/\(er=4\/er=5))\/(er=0/\∃done:YZ,o=.ok (done.map (·.1),lG)/\w'.ownsRow W.heap.size 32 1 (.slice a m c) done.length (df done)/\(∀q∈done,MF W.heap.size w' qs q)/\(qs=[]->Zb.slice a m c=qN)/\done.length=qs.length))
def Pv{f:Nat}{b:Y_}{o:aV (List YW×Nat)}(h:Zc prog f b W<|J1 W p o):Zc prog f b W λe j=>∃v,e=.returned v/\Ro W p o v j:=by
 refine h.mono ?_;rintro e j⟨i,⟨k,g,d,rfl⟩|⟨done,v,lG,g,rfl,d,l,n,q⟩⟩
 .exact⟨_,rfl,none,0,0,0,k,rfl,i,.inl ⟨g,d⟩⟩
 obtain⟨a,m,c,rfl⟩:=aF d;exact⟨_,rfl,a,m,c,lG,0,rfl,i,.inr ⟨rfl,done,g,d,l,n,q⟩⟩
def rI.mem{a:List Sg}(h:rI w W F u a):br W W.heap.size 2 KC a u/\∀s∈a,i7 W W.heap.size F s.2.1 s.2.2:=⟨h.rows,λs hs=>(h.e s hs).prog λk hk=>hk.1⟩
def QK(X:dD):E6:=by
 intro lo w M b n lay D s ps u v (G:Ze _) hn (ab:Ze _) (aq:Ze _) (HV:Ze _) (HS:Ze _) (aa:Ze _) hlo;have aG:=lB hn;have n0:=bC hn 0;have n1:=bC hn 1;have n2:=bC hn 2;simp at n0 n1 n2;obtain⟨ua,uc,rfl⟩:=aq.1.slice;have HF:=Z<|FN s.table G.a;generalize aX:cS D s=out;have E:=Z aX;have P:Ze (∀er w',out=(D,di er)->qB w w'->nj lo w M b out (.returned<|.tuple #[qI 0,qI (er:Nat)]) w'):=λer w' ho hb=>by rw[ho];exact⟨rfl,M,lay,fW.below G.a hb⟩
 have au:Ze (∀w' M' K D' (c:Int),out=(D',⟨[],c,0⟩)->fW lo w M b D' w' M' K->nj lo w M b out (.returned<|.tuple #[qI c,qI 0]) w'):=λw' M' K D' c ho aj=>by rw[ho];exact⟨rfl,M',K,aj⟩
 generalize nj lo w M b out=a7 at*;obtain⟨va,a5⟩:=HV.ptr;subst a5;cases hta:bO D s.table with
 |none=>
  rw[hta]at HF;have a:=Z<|P 2 w (by rw[<-E];exact AO hta) qW;simp only[iA]at HF;go_in;go_wp2_with fail;apply qS HF;go_wp2;exact a
 |some i=>
  obtain⟨l,(HL:Ze _),(Q:Ze _),aJ⟩:=oG G.a<|cx hta;rw[hta,aJ]at HF;have hT:=G.a.c i l _ HL Q;have d:=G.a.ok.2 _<|dS<|cx hta;obtain⟨cv,z,I,_⟩:=hT.g;have l0:=bC z 0;have l1:=bC z 1;have l2:=bC z;simp at l0 l1;have ah:=lB z;have F:=Z hta;have B:=Z d
  have am:=Z (x_ (ak D i) ah l0 l1 (pW I) (by have:=d.b;omega) G.rules G.d.2 aq (λp hp=>HS.c (by rw [aa];decide) p.1 (by rw [<-ab];exact V0 hp)) (by
   have t:=HS.len;rw[<-ab,VL]at t
   omega))
  rw[ab]at am;go_in;go_wp2_with fail;apply qR HF;intro A t;rw[t];go_wp2_with refine am.mono ?_;rintro e A⟨(h:Ze _),a2⟩;obtain⟨er,t,H,rfl⟩|⟨L,sv,t,H,rfl,h3⟩:=a2
  .have g:((er:Int) != 0)=true:=by simp;omega
   have a:=Z<|P er A (by rw[<-E];exact AP F t) h;go_wp2;exact a
  obtain⟨sa,sn,sc,rfl⟩:=aF h3.own;have O:=Z t;have ac:=Z H;have aU:=Z h3;have X1:=G.below h;have ba:=Z X1;have C:Ze (∀U,qB A U->_):=λU hW=>Dx (X1.a.below hW) HL Q d (ak D i).name;have y:Ze (∀U v',qB A U->br U U.heap.size 3 lS (ax (ak D i).name<|ak D i) v'->_):=λU v' hW J=>FD<|qh s.d (ax (ak D i).name<|ak D i) (.pointer va) v' U ⟨(X1.below hW).rules,(X1.below hW).d.2,((HV.aL λk hk=>h.block k hk).more h.size |>.aL (λk hk=>hW.block k hk)).more hW.size,HS.d,J,by rw[cH];have:=d.b;omega⟩;have al:Ze<|qB A A.drew:=qW.drew;have W:Ze<|qB A (A.alloc<|.cells #[qN] 204).drew:=(qA).drew;have aS:Ze<|(A.alloc<|.cells #[qN] 204).drew.heap[A.heap.size]?=some (.cells #[qN] 204):=aM A _;have k0:=(VK<|h.block l.n ah).trans l0;have kz:l.n<A.heap.size:=VT ah h.size;have q2:=(VK<|h.block n aG).trans n2;have qz:n<A.heap.size:=VT aG h.size;go_upto_region 7 with fail
  go_cut [8,9] (λs8 s9 wx=>∃(xb:Nat) (p4:Y8) (n4 c4 o:Nat),s9=qP xb/\s8=qI (o:Nat)/\Ze (qB A wx/\wx.heap[xb]?=some (.cells #[.slice p4 n4 c4] 204)/\JX (ax (ak D i).name<|ak D i) (aK s.d) wx p4 n4 c4 o))
  case first=>
   go_region_law (first
    | (refine dQ rfl (.tmp 37) (.tmp 41) rfl pH rfl rfl (C _ al) ?_
       rintro v3 V⟨g,⟨a3,n3,c3,rfl⟩,j⟩;have a:=Z<|al.trans g;have N:=Z j;have aV:n<V.heap.size:=(by have:=a.size;omega);have aW:=(VK<|a.block n qz).trans q2;have T:=Z<|VR 0
       clear g j)
    | (refine dQ rfl (.tmp 37) (.tmp 41) rfl pH rfl rfl (C _ W) ?_
       rintro v3 V⟨g,⟨a3,n3,c3,rfl⟩,j⟩;have a:=Z<|W.trans<|g.mono W.size;have N:=Z j;have aV:n<V.heap.size:=(by have:=a.size;omega);have aW:=(VK<|a.block n qz).trans q2;have R:Ze<|V.heap[A.heap.size]?=some (.cells #[qN] 204):=(g.block _<|by simp[Za.drew]).trans aS
       clear g j)
    | (refine dQ rfl (.tmp 36) (.tmp 42) rfl jR rfl rfl (y _ _ a N) ?_
       rintro v4 w4⟨p4,n4,c4,o,rfl,j,q⟩;have r:=Z<|a.trans<|j.mono a.size;have x:=Z q;have g:=bB j (lB R) R;have r0:=bC g 0;have rf:=bF g 0;simp at r0;have rz:=lB g;have S:=Z g
       clear j q g)
    | (refine dQ rfl (.tmp 36) (.tmp 42) rfl jR rfl rfl (y _ _ a N) ?_
       rintro v4 w4⟨p4,n4,c4,o,rfl,j,q⟩;have r:=Z<|a.trans<|j.mono a.size;have x:=Z q;have Y:=T
       clear j q)
    | (refine dQ rfl (.tmp 36) (.tmp 42) rfl jR rfl rfl (y _ _ (a.alloc a.size<|.cells #[qN] 204)<|N.below<|qW.alloc qZ<|.cells #[qN] 204) ?_
       rintro v4 w4⟨p4,n4,c4,o,rfl,j,q⟩;have r:=Z<|(a.alloc a.size<|.cells #[qN] 204).trans<|j.mono<|Wf a.size (by simp);have x:=Z q;have g:=bB j (by simp)<|aM V<|.cells #[qN] 204;have r0:=bC g;have rf:=bF g 0;have rz:=lB g;have S:=Z g;have a6:=T
       clear j q g))
   all_goals go_wp2_with fail
   all_goals go_meet
   all_goals first
    |exact⟨_,_,_,_,_,rfl,rfl,zZ r S qZ (Z<|lB R).o x⟩
    |exact⟨_,_,_,_,_,rfl,rfl,zZ r S a.size (by simp) x⟩
    |exact⟨_,_,_,_,_,rfl,rfl,FG r x⟩
  obtain⟨xb,p4,n4,c4,o,rfl,rfl,an⟩:=hcut;obtain⟨az,aP,a0⟩:=an.o;have a:qB w wc:=h.trans<|az.mono h.size;obtain af|⟨rfl,aN,ai⟩:=a0
  .have j:((o:Int) != 0)=true:=by have:=fu af;simp;omega
   have g:=Z<|P o wc (by rw[<-E];exact AQ F O af) a;go_wp2;exact g
  have aY:=G.below a;have hT:=aY.a.c i l _ HL Q;obtain⟨hm,(ad:Ze _),(ao:Ze _)⟩:=JD hT;have d:=B.o;have T:∀p∈(ak D i).rows.zip l.us,aZ (ax (ak D i).name<|ak D i) p.1:=λp hp=>(d.rows p.1 (by rw[<-ad];exact V0 hp)).src;have S:qB wc wc.drew:=qW.drew;have ag:gR (ax (ak D i).name<|ak D i)<|aK s.d:=by obtain⟨j,t,_⟩:=gv aN;exact⟨nV HS.d,j,t⟩
  obtain⟨mm,aE,(ap:Ze _)⟩:=nJ O;simp only[Wz]at aE;subst aE;have a4:L.length=s.c.length:=by have:=Wd List.length ac;simpa using this
  have V:∀q∈L,gR (ax (ak D i).name<|ak D i) q.2.1/\q.1<(ak D i).a.length:=λq g=>by
   obtain⟨j,r,rfl⟩:=Xe g;have t:(places L)[j]?=some L[j].1:=by rw[places,VO,VE r];rfl
   have H:(s.c.map (·.aW))[j]?=some L[j].2.1:=by rw[<-ac,VO,VE r];rfl
   obtain⟨h3,x⟩:=ap.2 j _ _ t H;obtain⟨ty,h5,_⟩:=gv x;obtain⟨it,hit,e⟩:=VV.1<|VY H;refine⟨⟨?_,ty,h5⟩,h3⟩;rw[<-e];exact HS.c (by rw[aa];decide) it hit
  have aL:=(aU.below az).below S |>.mem
  have Y:=Z (Pv (MW X (hm.below S) (λq g=>aB S (ao q g).1) (λe=>hT.empty (by rw [<-ad,e];rfl)) aL.1 aL.2 (ai.below S) ag (λq g=>(V q g).1) (λq g=>⟨⟨(T q g).2.1,W_ (T q g).1.symm⟩,(T q g).1⟩) (by
   intro e;have t:(ax (ak D i).name<|ak D i).length=0:=by rw[e];rfl
   rw[cH]at t;have:=d.pos
   omega) (λq g=>by rw[cH];exact(V q g).2) (by rw[WS];have:=d.d;omega) (by rw[a4];have:=HS.len;omega) (by rw[cH];have:=d.b;omega)))
  rw[ad,ac]at Y;obtain⟨bb,z,a8,_⟩:=hT.g;have aQ:=bC z 2;simp at aQ;have a9:=lB z;have x0:=bC aP;have bc:=lB aP;have ar:=Z aN;have a_:=Z T;have N:=Z a;obtain⟨ra,rc,a3⟩:=bN hT.rows;rw[a3]at Y aQ;go_upto_region 10 with fail
  go_region_law (refine eN rfl (.tmp 53) (.tmp 54) (.tmp 55) rfl FJ rfl rfl rfl Y ?_
                 rintro v6 w6⟨a6,m6,c6,av,aw,rfl,R,(aT:Ze _)⟩;have aR:=Z R
                 clear R)
  all_goals
   have R:qB wc w6:=Zd.trans qW.drew aR;have ay:qB w w6:=N.trans<|R.mono N.size;obtain⟨aC,af⟩|⟨rfl,done,hz,aI,ae,aA,aD⟩:=aT.o
   .have r:((aw:Int) != 0)=true:=by simp;omega
    have j:=Z<|P aw w6 (by rw[<-E];exact uZ F O ar aC) ay;go_wp2;exact j
   .have a1:=cx F
    have aO:=oY B (λx hx=>by
     obtain⟨it,hit,rfl⟩:=VV.1 hx
     exact HS.c (by rw[aa];decide) it hit) ap (λr J=>(B.rows r J).src) hz
    have aH:ec<|cm D i<|done.map (·.1):=G.o.a.ok.set a1 (by have:=B.o.d;have:=aO.2.1;simp only at this;omega) λr J=>(aO.1 r J).c
    obtain ⟨⟨cv,I⟩,aj⟩:=KG (rows:=done.map (·.1)) (us:=df done) (v':=.slice a6 m6 c6) G.o.a HL.o Q.o ay (by rw [VL];exact bU aI (show w.heap.size<=wc.heap.size from N.o.size)) (λe=>aA<|V3.1 (by rw [<-aD,Xs.1 e];rfl)) (λj r u J hu=>by
     rw[VO]at J;unfold df at hu;rw[VO]at hu;cases hj:done[j]? with
     |none=>rw[hj]at J;cases J
     |some p=>
      rw[hj]at J hu;cases J;cases hu;obtain⟨t,H⟩:=ae p<|VY hj;refine⟨t,λk hk=>?_⟩;obtain H|H:=H
      .exact .inl<|(ao p H).2 k hk
      .exact .inr ⟨Wf N.size<|H k hk,(t.lt k hk).2⟩) aH
    have HE:=Z<|au _ _ _ _ (av:Nat) (by rw[<-E];exact AR F O ar hz)<|aj.low hlo;have s2:=bC I;have sf:=bF I 2;have sz:=lB I;go_wp2;exact HE
