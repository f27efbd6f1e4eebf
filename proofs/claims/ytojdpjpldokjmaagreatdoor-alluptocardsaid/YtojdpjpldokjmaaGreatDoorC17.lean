import Derived.Test.YtojdpjpldokjmaaGreatDoorC16
import Derived.Test.YtojdpjpldokjmaaGreatDoorC13
import Derived.Test.YtojdpjpldokjmaaGreatDoorC15
set_option maxHeartbeats 0
set_option maxRecDepth 100000
set_option linter.all false
namespace Go.Proofs.YtojdpjpldokjmaaGreatDoor
open Go.Deep Go.RowKit Tryz
open Go renaming World->Za,Calls->Zc,callFunc->Zi
open RowKit renaming Below->Zd,Hid->Ze,intOf->Zk
variable{I:YW}{K:aI}{W w:World}{X Y:YX}{i j k n:Nat}{u:Value}{G H:Y7}{g:Y5}{a:Int}
def eG(t:bV):YX:=[67,82,69,65,84,69,32,84,65,66,76,69,32]++t.name++[32]++eD (t.a.map bM)++[10]
def py(t:bV):dH t=eG t++(t.rows.map<|dC t.name).flatten:=by simp[dH,eG]
def rp{l:List YX}(h:∀x∈l,x.length<=100)(a:l.length<=5):(eD l).length<=600:=by have:=kC l h;simp[eD];omega
def yQ{t:bV}(h:ij t):(eD<|t.a.map bM).length<=600:=rp (λx b=>by obtain⟨c,a,rfl⟩:=VV.1 b;exact nU (h.a c a).2.1) (by rw[VL];exact h.b)
def oQ{t:bV}(h:ij t):(eG t).length<=1000:=by have:=yQ h;have:=h.name.1;simp[eG];omega
def oE{t:bV}(h:ij t)(c:I∈t.rows):I.length<=5/\∀x∈I,dv x:=by obtain⟨a,b,_⟩:=h.rows I c;have:=h.b;refine⟨?_,b⟩;rw[a];simpa[ax]using this
def zF{t:bV}(h:ij t)(a:I∈t.rows):(eD<|I.map aS).length<=600:=rp (λx d=>by obtain⟨c,b,rfl⟩:=VV.1 d;exact mh<|(oE h a).2 c b) (by rw[VL];exact(oE h a).1)
def sV{t:bV}(h:ij t)(a:I∈t.rows):(dC t.name I).length<=1000:=by have:=zF h a;have:=h.name.1;simp[dC];omega
def sB{m:Nat}:∀l:List YX,(∀x∈l,x.length<=m)->l.flatten.length<=l.length*m
 |[],_=>by simp
 |x::r,h=>by have b:=h x (by simp);have c:=sB r λy a=>h y (by simp[a]);simp only[Yo,VH,Wk,Xp];omega
def sW{t:bV}(h:ij t)(j:Nat):(((t.rows.take j).map<|dC t.name).flatten).length<=25000:=by have a:=sB (m:=1000) ((t.rows.take j).map<|dC t.name) (λx d=>by obtain⟨c,b,rfl⟩:=VV.1 d;exact sV h<|Wr b);have e:=h.d;rw[VL,Wl]at a;have:min j t.rows.length*1000<=25*1000:=Wy _ (by omega);omega
def BW{t:bV}(h:ij t):(dH t).length<=26000:=by have a:=sW h t.rows.length;have b:=oQ h;rw[Wj]at a;rw[py,VH];omega
def zw(h:ec K)(i:Nat):(((K.take i).map dH).flatten).length<=200000:=by have a:=sB (m:=26000) ((K.take i).map dH) (λx d=>by obtain⟨c,b,rfl⟩:=VV.1 d;exact BW<|h.2 c<|Wr b);have e:=h.1;rw[VL,Wl]at a;have:min i K.length*26000<=6*26000:=Wy _ (by omega);omega
def Ir{d:Y_}:(Zi 38 d).run prog w=.ok (.enter 38 d) w:=by
 have g:(f38.name == "runtime.NumGoroutine")=false:=by kernel_rfl
 have c: f38.body.isNone=false:=by kernel_rfl
 have a:¬f38.name = "runtime.NumGoroutine":=by simpa using g
 have b:¬f38.body=none:=by intro e;rw[e]at c;cases c
 simp[Zi,go_sem,func38,a,b]
def Is{d:Y_}:(Zi 40 d).run prog w=.ok (.enter 40 d) w:=by
 have g:(f40.name == "runtime.NumGoroutine")=false:=by kernel_rfl
 have c: f40.body.isNone=false:=by kernel_rfl
 have a:¬f40.name = "runtime.NumGoroutine":=by simpa using g
 have b:¬f40.body=none:=by intro e;rw[e]at c;cases c
 simp[Zi,go_sem,func40,a,b]
def C8{d:Y_}:(Zi 37 d).run prog w=.ok (.enter 37 d) w:=by
 have g:(f37.name == "runtime.NumGoroutine")=false:=by kernel_rfl
 have c: f37.body.isNone=false:=by kernel_rfl
 have a:¬f37.name = "runtime.NumGoroutine":=by simpa using g
 have b:¬f37.body=none:=by intro e;rw[e]at c;cases c
 simp[Zi,go_sem,func37,a,b]
def SJ(n c:YX):(((({data:=#[67,82,69,65,84,69,32,84,65,66,76,69,32]}:Y9)++{data:=n.toArray})++{data:=#[32]})++{data:=c.toArray})++{data:=#[10]}=⟨([67,82,69,65,84,69,32,84,65,66,76,69,32]++n++[32]++c++[10]).toArray⟩:=by rw[show(#[67,82,69,65,84,69,32,84,65,66,76,69,32]:Array UInt8)=[67,82,69,65,84,69,32,84,65,66,76,69,32].toArray from rfl,show(#[32]:Array UInt8)=[32].toArray from rfl,show(#[10]:Array UInt8)=[10].toArray from rfl];rw[jZ,jZ,jZ,jZ]
def SK(n c:YX):(((({data:=#[73,78,83,69,82,84,32,73,78,84,79,32]}:Y9)++{data:=n.toArray})++{data:=#[32,86,65,76,85,69,83,32]})++{data:=c.toArray})++{data:=#[10]}=⟨([73,78,83,69,82,84,32,73,78,84,79,32]++n++[32,86,65,76,85,69,83,32]++c++[10]).toArray⟩:=by rw[show(#[73,78,83,69,82,84,32,73,78,84,79,32]:Array UInt8)=[73,78,83,69,82,84,32,73,78,84,79,32].toArray from rfl,show(#[32,86,65,76,85,69,83,32]:Array UInt8)=[32,86,65,76,85,69,83,32].toArray from rfl,show(#[10]:Array UInt8)=[10].toArray from rfl];rw[jZ,jZ,jZ,jZ]
def DI(w wr:Za)(l:YX):Prop:=qB w wr/\Lib.IsBuilder 86 5 w.heap.size w.heap.size (Lib.byteCells l) wr
def DG(X:mH){wr:Za}{s:YX}(h:DI w wr Y)(g:Y.length+s.length<=100000000):Zc prog 37 #[qP w.heap.size,qT s] wr λe b=>∃v,e=.returned v/\DI w b (Y++s):=
 (X.write _ _ Y s wr h.2 g h.1.size).mono λe b ⟨v,d,c,a⟩=>⟨v,d,h.1.trans a,c⟩
def tT{T e:TypeId}{a:Y0}{wr:Za}(h:Lib.BuilderAt T e n k u a wr)(c:qB wr w):Lib.BuilderAt T e n k u a w:=by obtain⟨d,v,b,g,i⟩:=h;exact⟨d,v,(c.block k<|lB b).trans b,aB c g,i⟩
def DI.below{wr:Za}(h:DI w wr X)(a:qB wr W):DI w W X:=⟨h.1.trans<|a.mono h.1.size,h.2.imp (λh=>tT h a) λh=>tT h a⟩
def DI.drew{wr:Za}(h:DI w wr X):DI w wr.drew X:=h.below qW.drew
def B_.at_{l:fG}{t:bV}(h:B_ w G l t):∃c d,l.a=.slice c t.rows.length d/\∀(j:Nat)(r:YW),t.rows[j]?=some r->∃g u,c=some ⟨g,0,none⟩/\g<w.heap.size/\w.cell? ⟨g,j,none⟩=some u/\br w w.heap.size 3 vC r u:=by
 obtain⟨⟨i,y⟩,x,_⟩:=JD h;have a:(t.rows.zip l.us).length=t.rows.length:=by rw[<-VL (f:=(·.1)),x]
 obtain⟨c,d,b⟩:=i.slice;refine⟨c,d,by rw[b,a],λj r q=>?_⟩;have n:j<(t.rows.zip l.us).length:=by rw[a];exact(VZ.1 q).1
 have o:(t.rows.zip l.us)[j]?=some (t.rows.zip l.us)[j]:=VE n;have A:(t.rows.zip l.us)[j].1=r:=by
  have k:((t.rows.zip l.us).map (·.1))[j]?=some r:=by rw[x];exact q
  rw[VO,o]at k;simpa using k
 obtain⟨g,cap,e,B,z⟩:=i.c (f:=λp=>p.2) o;rw[b]at e;cases e;refine⟨g,_,rfl,B,z,?_⟩;have:=y _<|VQ n;rw[A]at this;exact this
def Pl(w:Za)(x:YX)(v:Value)(w':Za):Prop:=v=qT x/\qB w w'
def KF{f:Nat}{a:Y_}(h:Zc prog f a w<|qF (qT X) w):Zc prog f a w λe b=>∃v,e=.returned v/\Pl w X v b:=h.mono λe b ⟨c,d⟩=>⟨_,c,rfl,d⟩
def Uz(X:mH){F:Y5}(h:pY w G n F K)(hg:kM w):Zc prog 27 #[.pointer<|some ⟨n,0,none⟩] w λe Y=>e=.returned (.string ⟨(xG K).toArray⟩)/\Zd w.heap.size w Y:=by
 obtain⟨ta,tc,R,(HA:Ze _)⟩:=h.slice;have hb:=lB R;have c0:=bC R 0;simp at c0;have hD:K.length<=6:=h.ok.1;have O:=Z h;have HG:=Z hg;have P:=Z X;have HS:Ze<|DI w (w.alloc<|.cells #[.pointer none,.slice none 0 0] 86) []:=⟨(VM _ _).alloc (VR _) _,Lib.fresh_isBuilder _ _ _⟩;have aB:w.heap.size=w.heap.size:=rfl;go_in;go_wp2
 go_loopw [13] (λao wr=>∃i:Nat,i<=K.length/\ao=.int .i64 i/\Ze (DI w wr<|((K.take i).map dH).flatten)) (λa _=>K.length-(Zk a).toNat)
 exact⟨0,Wi _,rfl,HS⟩;obtain⟨i,hi,rfl,HI⟩:=hrel;have o:=HI.1;by_cases J:i<K.length
 ·have E:K[i]?=some K[i]:=VE J;have I:F[i]?=some (F[i]'(O.len▸J)):=VE _;generalize F[i]'(O.len▸J)=l at*;have am:Ze<|((K.take<|i+1).map dH).flatten=((K.take i).map dH).flatten++dH K[i]:=by
   unfold Ze;rw[V9,E];simp only[XV,Wc,We,Yw,XO,Yo,List.flatten_nil,WQ]
  generalize K[i]=t at*;obtain⟨g,rfl,T,e0⟩:=HA.o i l I;have e0:=(VK<|o.block g T).trans e0;unfold gC at e0;have M:=O.below o;have hT:=M.c i l t I E;obtain⟨cv,d,S,_⟩:=hT.q;obtain⟨ca,cc,rfl⟩:=bN S;have n0:=bC d 0;have n1:=bC d 1;simp at n0 n1;have B:=lB d;have b:=M.ok.2 t<|VY E;have A:Zd wr.heap.size wr wr.drew:=(VM _ _).drew;have af:=Z<|KF<|Pt P ((HG.below o).below A) ((c7 (f:=OT) (λ_=>rfl) S<|VR _).below A) b.b λc hc=>⟨(b.a c hc).1,(b.a c hc).2.1⟩;have aA:=zw O.ok i;have q:Ze (∀W,DI w W (((K.take i).map dH).flatten)->Zc prog 37 #[.pointer<|some ⟨w.heap.size,0,none⟩,.string ⟨(eG t).toArray⟩] W λe Y=>∃v,e=.returned v/\DI w Y (((K.take i).map dH).flatten++eG t)):=λW z=>DG P z (by have:=oQ b;omega);have aF:=yQ b;have ay:=b.name.1;have al:=Z<|py t;have ai:=Z<|oQ b;have eh:(⟨(eG t).toArray⟩:Y9)=_:=(SJ t.name<|eD<|t.a.map bM).symm;rw[eh]at q;generalize eD (t.a.map bM)=x at*;have C:Ze (∀W,Zd w.heap.size w W->B_ W G l t):=λW z=>(O.below z).c i l t I E;have p:=Z b;have ar:g<wr.heap.size:=VT T o.size;have ac:Ze<|DI w wr.drew<|((K.take i).map dH).flatten:=HI.drew;have az:=b.d;have a1:¬(9223372036854775807<13+t.name.length):=by omega
  have a2:¬(9223372036854775807<13+t.name.length+1):=by omega
  have a3:¬(9223372036854775807<13+t.name.length+1+x.length):=by omega
  have a4:¬(9223372036854775807<13+t.name.length+1+x.length+1):=by omega
  go_upto_region 5 with fail
  go_cut [] (λwx=>Ze<|DI w wx<|((K.take i).map dH).flatten++eG t)
  case first=>
   go_region_law (first
    | (refine dQ rfl (.tmp 26) (.func 39) rfl Ir (by simp[Act.eval,Act.put]) (by simp[Act.eval,Act.put]) af ?_
       rintro D u⟨rfl,j⟩;have N:l.n<u.heap.size:=VT B j.size;have y:=(VK<|j.block l.n B).trans n0;have k:=Z<|ac.below j
       clear j)
    | (refine dQ rfl (.tmp 3) (.tmp 29) rfl C8 (by simp[Act.eval,Act.put]) (by simp[Act.eval,Act.put]) (q _ k) ?_
       intro H L j;have r:=Z j
       clear j))
   all_goals go_wp2_with fail
   all_goals go_meet
   all_goals exact r
  have N:=hcut;have Q:=N.1;obtain⟨aw,d,_,_⟩:=(C wc Q).q;have m0:=bC d 0;have m2:=bC d 2;simp at m0 m2;have au:=lB d;obtain⟨ra,rc,U,av⟩:=(C wc Q).at_;rw[U]at m2;have aj:Ze (∀W,Zd w.heap.size w W->∀(j:Nat) (r:YW),t.rows[j]?=some r->∃g u,ra=some ⟨g,0,none⟩/\g<W.heap.size/\W.cell? ⟨g,j,none⟩=some u/\br W W.heap.size 3 vC r u):=λW M j r hr=>by obtain⟨D,H,k,y⟩:=(C W M).at_;rw[U]at k;cases k;exact y j r hr
  have ae:Ze (∀W,Zd w.heap.size w W->W.cell? ⟨l.n,0,none⟩=some (.string ⟨t.name.toArray⟩)/\l.n<W.heap.size):=λW M=>by obtain⟨y,k,_,_⟩:=(C W M).q;have:=bC k 0;simp at this;exact⟨this,lB k⟩
  generalize ((K.take i).map dH).flatten=pre at*;have ah:Ze<|(pre++eG t).length<=300000:=by unfold Ze;have:=ai.o;rw[VH];omega
  generalize eG t=hd at*;go_wp2
  go_loopw [36] (λap aq=>∃j:Nat,j<=t.rows.length/\ap=.int .i64 j/\Ze (DI w aq<|pre++hd++((t.rows.take j).map<|dC t.name).flatten)) (λa _=>t.rows.length-(Zk a).toNat)
  exact⟨0,Wi _,rfl,by simpa[Ze]using N.o⟩;obtain⟨j,hj,rfl,HJ⟩:=hrel;have H:=HJ.1;by_cases an:j<t.rows.length
  ·have L:t.rows[j]?=some t.rows[j]:=VE an;have ak:Ze<|((t.rows.take<|j+1).map<|dC t.name).flatten=((t.rows.take j).map<|dC t.name).flatten++dC t.name t.rows[j]:=by
    unfold Ze;rw[V9,L];simp only[XV,Wc,We,Yw,XO,Yo,List.flatten_nil,WQ]
   have k:=VY L;have aE:=zF p k;have aC:=sV p k;have aD:=sW p j;obtain⟨g2,u2,rfl,ax,e2,V⟩:=aj.o _ H j _ L;obtain⟨k0,B⟩:=ae.o _ H;have A:Zd wr.heap.size wr wr.drew:=(VM _ _).drew;have ag:=Z<|KF<|Pu P ((HG.below H).below A) (V.below A) (oE p k).1 (oE p k).2;have q:Ze (∀W,DI w W (pre++hd++((t.rows.take j).map<|dC t.name).flatten)->Zc prog 37 #[.pointer<|some ⟨w.heap.size,0,none⟩,.string ⟨(dC t.name t.rows[j]).toArray⟩] W λe Y=>∃v,e=.returned v/\DI w Y (pre++hd++((t.rows.take j).map<|dC t.name).flatten++dC t.name t.rows[j])):=λW z=>DG P z (by have:=ah.o;rw[VH];omega);have eh:(⟨(dC t.name t.rows[j]).toArray⟩:Y9)=_:=(SK t.name<|eD<|t.rows[j].map aS).symm;rw[eh]at q;obtain⟨ua,uc,rfl⟩:=V.slice;generalize eD (t.rows[j].map aS)=y at*;generalize t.rows[j]=r at*;have ad:=Z HJ.drew;have b1:¬(9223372036854775807<12+t.name.length):=by omega
   have b2:¬(9223372036854775807<12+t.name.length+8):=by omega
   have b3:¬(9223372036854775807<12+t.name.length+8+y.length):=by omega
   have b4:¬(9223372036854775807<12+t.name.length+8+y.length+1):=by omega
   go_upto_region 9 with fail
   go_region_law (first
    | (refine dQ rfl (.tmp 46) (.func 41) rfl Is (by simp[Act.eval,Act.put]) (by simp[Act.eval,Act.put]) ag ?_
       rintro v3 w3⟨rfl,D⟩;have z3:l.n<w3.heap.size:=VT B D.size;have o0:=(VK<|D.block l.n B).trans k0;have aa:=Z<|ad.below D
       clear D)
    | (refine dQ rfl (.tmp 3) (.tmp 49) rfl C8 (by simp[Act.eval,Act.put]) (by simp[Act.eval,Act.put]) (q _ aa) ?_
       intro v4 w4 D;have ab:=Z D
       clear D))
   all_goals
    have D:Ze<|DI w w4<|pre++hd++((t.rows.take<|j+1).map<|dC t.name).flatten:=by unfold Ze;rw[ak,<-Wh];exact ab
    go_wp2;go_roundw;exact⟨j+1,by omega,by go_num,D⟩
    case measure=>simp[Zk];omega
  obtain rfl:j=t.rows.length:=by omega
  have k:Ze<|DI w wr<|((K.take<|i+1).map dH).flatten:=by unfold Ze;have:=HJ.o;rw[Wj,Wh,<-al,<-am]at this;exact this
  go_wp2;go_roundw;exact⟨i+1,by omega,by go_num,k⟩;simp[Zk];omega
 obtain rfl:i=K.length:=by omega
 have g:Ze<|xG K=(K.map dH).flatten:=rfl;have d:=Z<|P.str _ _ _ wr HI.2 o.size;rw[Wj]at d;have b:=Z o;go_wp2_with fail;refine d.mono ?_;rintro e j⟨rfl,c⟩;go_wp2;go_ret;exact⟨i5<|by rw[g],Z<|b.trans c⟩
structure Pb(w:Za)(M:Y7):Prop where
 g:kM w
 not:∀k,k=5\/k=2\/k=0->¬M k
def Pb.step(h:Pb w G)(a:pE w G W H):Pb W H:=
 ⟨h.g.aL λk hk=>a.aL.block k ⟨h.g.c k hk,h.not k hk⟩,λk hk=>a.not (h.g.c k hk)<|h.not k hk⟩
def Pb.new(h:kM w):Pb (w.alloc Io)<|N8 w.heap.size:=
 ⟨h.below<|(VM _ _).alloc (VR _) _,λk hk e=>by
  have b:=h.c k hk;have a:k=w.heap.size:=e
  omega⟩
def Z0(t:YX):t.take (Zo t).length=Zo t:=by obtain⟨r,h⟩:=ZB false t;unfold Zo;generalize Zq false t=l at*;subst h;simp
def Z1(h:Zu [] X=none):Zt X=none:=by unfold Zt;rw[h]
def Z5(h:Zu [] X=some K)(a:xG K=X):Zt X=some K:=by unfold Zt;rw[h];simp only;rw[VG a]
def Z9(h:Zu [] X=some K)(a:xG K≠X):Zt X=none:=by unfold Zt;rw[h];simp only;rw[VF a]
def ZV(w:Za)(o:Option aI)(e:Ending)(w':Za):Prop:=qB w w' /\
 ((o=none/\e=.returned (.tuple #[.pointer none,qI 7]))\/∃D M lay,o=some D/\e=.returned (.tuple #[qP w.heap.size,qI 0])/\Live w' M w.heap.size lay D/\Pb w' M/\∀k,M k->w.heap.size<=k)
structure LdI(w W:Za)(M:Y7)(lay:Y5)(s r:YX)(D:aI):Prop where
 live:Live W M w.heap.size lay D
 a:pE (w.alloc Io) (N8 w.heap.size) W M
 eq:Zu D r=Zu [] s
def LdI.d{s:YX}(h:LdI w W G g s X K):qB w W/\∀k,G k->w.heap.size<=k:=by
 have a:qB w<|w.alloc Io:=qA;refine⟨aai a (λk hk=>W_ (show k=w.heap.size from hk).symm) h.a a.size,λk hk=>?_⟩;obtain b|b:=h.a.new k hk
 .exact W_ (show k=w.heap.size from b).symm
 simp at b;omega
def aaq(r:Y9)(h:n<=r.size):(r.extract 0 n).data.toList=r.data.toList.take n/\(r.extract 0 n).size=n/\(r.extract n r.size).data.toList=r.data.toList.drop n/\(r.extract n r.size).size=r.size-n:=by refine⟨by rw[nY];simp,by simp;omega,by rw[nY,VX<|by simp],by simp⟩
def aav(L:lL)(X:dD)(S:mH)(s:Y9)(P:s.size<=1048576)(c:rh w)(b:kM w):
 Zc prog 30 #[.string s] w (ZV w<|Zt s.data.toList):=by
 have k:=Z L;have i:=Z X;have q:=Z S;have B:=Z<|Live.new c;have u:=Z<|Pb.new b;have a:=Z<|Vf w;have E:=Z P;have o:Ze (∀W M lay r D,LdI w W M lay s.data.toList r D->∀H,qB w H->Zt s.data.toList=none->ZV w (Zt s.data.toList) (.returned<|.tuple #[.pointer none,qI 7]) H):=λW M lay r D _ H y h=>⟨y,.inl ⟨h,rfl⟩⟩;clear c b L X S;go_in;go_wp2_with refine a.mono ?_;rintro e S⟨rfl,rfl⟩;clear a;go_wp2
 go_loopw [5] (λQ wr=>∃(r:Y9) (D:aI) (M:Y7) (lay:Y5),Q=.string r/\r.size<=s.size/\Ze (LdI w wr M lay s.data.toList r.data.toList D)) (λa _=>match a with|.string r=>r.size|_=>0)
 exact⟨s,[],_,_,rfl,qZ,B,pE.refl _ _,rfl⟩
 case round=>
  obtain⟨r,D,M,lay,rfl,O,b⟩:=hrel;have t:=Z<|toList_data r;cases hem:r.toList.isEmpty with
  |false=>
   have l:Ze<|r.data.toList≠[]:=λe=>by rw[t,e]at hem;cases hem
   have L:r.size<=1048576:=Wf O E;have I:(Zo r.data.toList).length<=r.size:=by rw[<-ZD];exact ZP _
   have p:Ze<|0<(Zo r.data.toList).length:=ZA l;have C:=Z<|Z0 r.data.toList;have c:=Z<|ZH (db:=D) l;have d:=Z<|aac r wr L;generalize (Zo r.data.toList).length=n at*;obtain⟨g,R,j,z⟩:=aaq r I;have F:=Z g;have G:=Z j;have x:=Z z;clear g j z;go_wp2_with refine d.mono ?_;rintro e T⟨rfl,rfl⟩;have g:=Z<|aap k i (r.extract 0 n) b.live (by rw[R];omega);rw[F,C]at g;clear d;go_wp2_with refine g.mono ?_;rintro e N⟨rfl,M3,d,j⟩;clear g;cases hld:Zp D (Zo r.data.toList)with
   |none=>
    have g:=Z (o _ _ _ _ _ b N (by
     have y:=b.d
     exact aai y.1 y.2 d y.1.size)<|Z1<|by rw[<-b.eq,c,hld])
    clear d j hld b c;go_wp2;go_ret2;exact g
   |some D'=>
    obtain⟨g,z⟩:=j D' hld
    have A:Ze<|LdI w N M3 g s.data.toList (r.extract n r.size).data.toList D':=⟨z,b.a.trans d,by
     rw[G,<-b.eq,c,hld]⟩
    have K:(r.extract n r.size).size<=s.size:=by rw[x];omega
    have J:(r.extract n r.size).size<r.size:=by rw[x];have:=p.o;omega
    clear d j hld b c z;go_wp2;exact⟨⟨_,D',M3,g,rfl,K,A⟩,J⟩
  |true=>
   have p:Ze<|r.data.toList=[]:=by rw[t]at hem;exact List.isEmpty_iff.1 hem
   have n:=Z<|Uz q b.live.ex.a (u.step b.a).g;go_wp2_with refine n.mono ?_;rintro e l⟨rfl,c⟩;have HEq:Ze<|Zu [] s.data.toList=some D:=by have h:=b.eq;rw[p,Z6]at h;exact h.symm
   have g:Ze<|qB w l:=b.d.1.trans<|c.mono b.d.1.size;by_cases d:xG D=s.data.toList
   ·have z:Ze<|ZV w (Zt s.data.toList) (.returned<|.tuple #[qP w.heap.size,qI 0]) l:=by
     have j:pE (w.alloc Io) (N8 w.heap.size) l M:=b.a.trans<|pE.below M c;exact⟨g,.inr ⟨D,M,lay,Z5 HEq d,rfl,b.live.below c,u.step j,b.d.2⟩⟩
    generalize ZV w (Zt s.data.toList)=x at*;clear c b HEq n;go_wp2;exact z
   have x:(xG D==s.toList)=false:=by rw[toList_data];simp[d]
   have z:=Z<|o _ _ _ _ _ b l g<|Z9 HEq d;generalize ZV w (Zt s.data.toList)=j at*;clear c b HEq n d;go_wp2;exact z
def Gl(k:Nat):Prop:=k=9\/k=1\/k=8\/k=5\/k=2\/k=0
structure Pr where
 a:Nat
 b:Nat
 c:Nat
 M:Nat->Prop
 R:Nat->Prop
 lay:Y5
 d:Y5
 D:aI
 E:aI
structure Rq(w:Za)(p:Pr):Prop where
 box:w.heap[p.a]?=some (.cells #[qP p.b,qP p.c] 70)
 live:Live w p.M p.b p.lay p.D
 a:Pb w p.M
 ref:jE w p.R p.c p.d p.E
def pR(p:Pr):Value:=qP p.a
def Live.c(h:Live w G n g K)(b:w.heap.size<=W.heap.size)(a:∀k,G k\/Gl k->W.heap[k]?=w.heap[k]?):Live W G n g K:=
 ⟨⟨h.ex.a.aL b λk c=>a k<|.inl c,h.ex.rules.aL<|a _<|.inr<|.inl rfl,h.ex.d.1,VT h.ex.d.2 b⟩,h.spell.same<|a _<|.inr<|.inr<|.inl rfl,h.err.same<|a _<|.inr<|.inr<|.inr<|.inl rfl,h.gs,h.ge,h.pow.aL<|a _<|.inr<|.inr<|.inr<|.inr<|.inl rfl,h.a⟩
def Pb.c(h:Pb w G)(b:∀k,Gl k->W.heap[k]?=w.heap[k]?):Pb W G:=
 ⟨h.g.aL (λk a=>b k (by
  obtain e|e|e:=a
  .exact .inr<|.inr<|.inr<|.inl e
  .exact .inr<|.inr<|.inr<|.inr<|.inl e
  .exact .inr<|.inr<|.inr<|.inr<|.inr e)),h.not⟩
def Rq.aL{w':Za}{p:Pr}(h:Rq w p)(c:w.heap.size<=w'.heap.size)(a:∀k,p.M k\/p.R k\/Gl k\/k=p.a->w'.heap[k]?=w.heap[k]?):Rq w' p:=
 ⟨(a _<|.inr<|.inr<|.inr rfl).trans h.box,h.live.c c λk b=>a k<|b.elim (λh=>.inl h) λh=>.inr<|.inr<|.inl h,h.a.c λk d=>a k<|.inr<|.inr<|.inl d,h.ref.aL c λk e=>a k<|.inr<|.inl e⟩
def Oo{d:Nat->Int}(c:pE w G W H)(e:∀k,G k->d k=a):∃b:Nat->Int,(∀k,k<w.heap.size->b k=d k)/\(∀k,H k->b k=a)/\(KP (λk=>k<w.heap.size/\d k≠a) w W):=by
 refine⟨λk=>if k<w.heap.size then d k else a,λk hk=>VG hk,λk hk=>?_,⟨c.aL.os,c.aL.tape,c.aL.output,c.aL.size,λk hk=>c.aL.block k ⟨hk.1,λh=>hk.2<|e k h⟩⟩⟩;show(if k<w.heap.size then d k else a)=a;split
 .obtain h|h:=c.new k hk
  .exact e k h
  omega
 rfl
def Rq.lt{p:Pr}(h:Rq w p):p.a<w.heap.size/\(∀k,p.M k->k<w.heap.size)/\∀k,p.R k->k<w.heap.size:=⟨lB h.box,h.live.ex.a.lt,h.ref.lt⟩
def mF{a:List Pr}{p q x:Pr}(c:a[i]?=some p)(h:(a.set i x)[j]?=some q):(j=i/\q=x)\/(j≠i/\a[j]?=some q):=by
 rw[Wq]at h;split at h
 .rename_i e;subst e;rw[VG<|bw c]at h;cases h;exact .inl ⟨rfl,rfl⟩
 rename_i e;exact .inr ⟨λb=>e b.symm,h⟩
def KA{a:List Pr}{p x:Pr}(b:a[i]?=some p)(c:x.a=p.a):(a.set i x).map pR=a.map pR:=by
 apply WX;intro j;rw[VO,VO,Wq];split
 .rename_i e;subst e;rw[VG<|bw b,b];simp[pR,c]
 rfl
