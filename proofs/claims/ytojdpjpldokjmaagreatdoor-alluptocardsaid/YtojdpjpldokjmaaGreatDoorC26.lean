import Derived.Test.YtojdpjpldokjmaaGreatDoorC24
import Derived.Test.YtojdpjpldokjmaaGreatDoorC25
set_option maxHeartbeats 0
set_option maxRecDepth 100000
set_option linter.all false
namespace Go.Proofs.YtojdpjpldokjmaaGreatDoor
open Go.Deep Go.RowKit Tryz
open Go renaming World->Za,Calls->Zc
open RowKit renaming Hid->Ze,intOf->Zk
variable{W w x:World}{G:Y7}{g:Y5}{i j k n:Nat}{b:Bool}{K:aI}{z:Value}
def Z4(w:Za)(o:Option aI)(e:Ending)(w':Za):Prop:=qB w w' /\
 ((o=none/\e=.returned (.tuple #[.pointer none,qI 7]))\/∃D M lay,o=some D/\e=.returned (.tuple #[qP w.heap.size,qI 0])/\jE w' M w.heap.size lay D/\∀k,M k->w.heap.size<=k)
structure LrI(w W:Za)(M:Y7)(lay:Y5)(s:YX)(f i:Nat)(q:Bool)(D:aI):Prop where
 a:jE W M w.heap.size lay D
 d:qB w W
 c:∀k,M k->w.heap.size<=k
 eq:Zr D ((s.take i).drop f) q (s.drop i)=Zr [] [] false s
def LrI.go{s:YX}{f:Nat}(h:LrI w W G g s f i b K)(j:f<=i)(c:i<s.length)(d:s[i]=39\/¬(s[i]=10/\b=false)):LrI w W G g s f (i+1) (if s[i]=39 then !b else b) K:=by
 refine⟨h.a,h.d,h.c,?_⟩;have e:=h.eq;rw[VJ c,Zr]at e;rw[<-XS c,Xb (by simp;omega)];by_cases a:s[i]=39
 .rw[VG a]at e ⊢;exact e
 rw[VF a,VF<|d.resolve_left a]at e;rw[VF a];exact e
def LrI.line{W':Za}{M':Y7}{lay':Y5}{s:YX}{f:Nat}(h:LrI w W G g s f i false K)(j:i<s.length)(c:s[i]=10)(a:ei W.heap.size W G w.heap.size (fx K<|(s.take i).drop f).1 W' M' lay'):
 qB w W'/\if (fx K<|(s.take i).drop f).2.err=0 then LrI w W' M' lay' s (i+1) (i+1) false (fx K<|(s.take i).drop f).1 else Zz s=none:=by
 have b:qB w W':=⟨a.aL.os.trans h.d.os,a.aL.tape.trans h.d.tape,a.aL.output.trans h.d.output,Wf h.d.size a.aL.size,λk hk=>(a.aL.block k ⟨VT hk h.d.size,λl=>by have:=h.c k l;omega⟩).trans<|h.d.block k hk⟩;have e:=h.eq;rw[VJ j,Zr,VF (by rw[c];decide),VG ⟨c,rfl⟩]at e;refine⟨b,?_⟩;split
 .rename_i d;rw[VG d]at e;exact⟨a.a,b,λk hk=>(a.new k hk).elim (h.c k)<|Wf h.d.size,by rw[show(s.take<|i+1).drop (i+1)=[]from Wo (by simp;omega)];exact e⟩
 .rename_i d;rw[VF d]at e;unfold Zz;rw[<-e]
def LrI.below{s:YX}{f i:Nat}(h:LrI w W G g s f i b K)(a:qB W x):LrI w x G g s f i b K:=⟨h.a.below a,h.d.trans<|a.mono h.d.size,h.c,h.eq⟩
def aaw(t:YX)(w:Za)(V:t.length<=1048576):Zc prog 91 #[qT t] w<|Z4 w<|Zz t:=by
 have G:Ze<|LrI w (w.alloc GF) (N8 w.heap.size) [] t 0 0 false []:=⟨jE.new w,qA,λk hk=>W_ (show k=_ from hk).symm,by simp⟩;have x:Ze (∀W,qB w W->Zz t=none->Z4 w (Zz t) (.returned<|.tuple #[.pointer none,qI 7]) W):=λW T h=>⟨T,.inl ⟨h,rfl⟩⟩;have z:Ze (∀W M lay D,qB w W/\(∀k,M k->w.heap.size<=k)/\jE W M w.heap.size lay D->Zz t=some D->Z4 w (Zz t) (.returned<|.tuple #[qP w.heap.size,qI 0]) W):=λW M lay D h e=>⟨h.1,.inr ⟨D,M,lay,e,rfl,h.2.2,h.2.1⟩⟩;generalize Z4 w (Zz t)=L at*;obtain⟨s,rfl⟩:∃s:Y9,s.data.toList=t:=⟨⟨t.toArray⟩,by simp⟩;have y:=Z<|ZD s;rw[ZD]at V;rw[show qT s.data.toList=.string s by simp[qT]];go_in;go_wp2
 go_loopw [5,6,7] (λX Y s7 wr=>∃(f i:Nat) (q:Bool) (D:aI) (M:Y7) (lay:Y5),X=qI (f:Nat)/\Y=.bool q/\s7=qI (i:Nat)/\f<=i/\i<=s.size/\Ze (LrI w wr M lay s.data.toList f i q D)) (λ_ _ a _=>s.size-(Zk a).toNat)
 exact⟨0,0,false,[],_,_,rfl,rfl,rfl,qZ,qO,G⟩;obtain⟨f,i,q,D,M,lay,rfl,rfl,rfl,U,hi,l⟩:=hrel;by_cases J:i<s.size
 .obtain⟨N,(d:Ze _)⟩:∃h:i<s.data.toList.length,s.data.toList[i]=s[i]:=⟨by rw[y];exact J,by simp[ByteArray.getElem_eq_getElem_data]⟩;have b:=Z<|l.go U N;rw[d]at b;have u:∀n:Nat,n<256->s[i].toNat=n->s[i]=UInt8.ofNat n:=λn o h=>by rw[<-h];simp
  by_cases A:s[i].toNat=39
  .have c1:(((s[i].toNat:Nat):Int)==39)=true:=by simp;omega
   have c2:(((s[i].toNat:Nat):Int) != 10)=true:=by simp;omega
   have c:s[i]=39:=u 39 (by decide) A;have g:=Z<|b<|.inl c;rw[VG c]at g;clear c;clear b u A d;go_wp2;go_roundw;exact⟨f,i+1,!q,D,M,lay,rfl,rfl,by go_num,by omega,by omega,g⟩;simp[Zk];omega
  have c1:(((s[i].toNat:Nat):Int)==39)=false:=by simp;omega
  have p:s[i]≠39:=λe=>A (by rw[e];rfl);rw[VF p]at b;by_cases o:s[i].toNat=10/\q=false
  .obtain⟨o,rfl⟩:=o;have c2:(((s[i].toNat:Nat):Int) != 10)=false:=by simp;omega
   have C:=Z<|RW ((s.data.toList.take i).drop f) (by simp;omega) l.a;rw[show qT ((s.data.toList.take i).drop f)=.string (s.extract f i) by rw[<-nY]]at C;have H:=Z λS R B=>l.line (W':=S) (M':=R) (lay':=B) N (by rw[d];exact u 10 (by decide) o);generalize fx D ((s.data.toList.take i).drop f)=out at*;clear b u A p o d;go_wp2_with refine C.mono ?_;rintro e K⟨rv,qs,rfl,-,g,I,j,r⟩;obtain⟨O,Q,P,rfl⟩:=aF g.1;obtain⟨(HB:Ze _),c⟩:=H K I j r;by_cases E:out.2.err=0
   .rw[VG E]at c;have F:Ze<|LrI w (K.alloc<|.cells #[.slice O Q P,qI out.2.count] 36) I j s.data.toList (i+1) (i+1) false out.1:=c.below qA;have k0:((out.2.err:Int) != 0)=false:=by simp[E]
    clear c r g C H l;go_wp2;go_roundw;exact⟨i+1,i+1,false,_,I,j,by go_num,rfl,by go_num,qZ,by omega,F⟩;simp[Zk];omega
   rw[VF E]at c;have F:=Z<|x (K.alloc<|.cells #[.slice O Q P,qI out.2.count] 36) (HB.alloc HB.size _) c;have k0:((out.2.err:Int) != 0)=true:=by simp[E]
   clear c r g C H l;go_wp2;exact F
  have c:=Z<|b<|.inr λe=>o ⟨by rw[e.1];rfl,e.2⟩;clear b u A p d;by_cases c2:(((s[i].toNat:Nat):Int) != 10)=true
  .go_wp2;go_roundw;exact⟨f,i+1,q,D,M,lay,rfl,rfl,by go_num,by omega,by omega,c⟩;simp[Zk];omega
  have c3:(((s[i].toNat:Nat):Int) != 10)=false:=by simpa using c2
  cases q with
  |false=>exact absurd ⟨by simp at c2;omega,rfl⟩ o
  |true=>
   clear o c2;go_wp2;go_roundw;exact⟨f,i+1,true,D,M,lay,rfl,rfl,by go_num,by omega,by omega,c⟩;simp[Zk];omega
 obtain rfl:i=s.size:=by omega
 have HEq:Ze<|Zr [] [] false s.data.toList=some D:=by have h:=l.eq;rw[show s.data.toList.drop s.size=[]from Wo (by rw[y];exact VR _)]at h;exact h.symm
 go_wp2_with apply(Z<|UA l.a).mono;rintro e j⟨rfl,g⟩;have c:=Z<|l.below g;have d:=Z<|toList_data s;by_cases b:xG D=s.data.toList
 .have n:=Z<|z j M lay D ⟨c.d,c.c,c.a⟩ (by unfold Zz;rw[HEq];simp[b]);have o:(xG D==s.toList)=true:=by rw[d];simp[b]
  clear b;go_wp2;exact n
 have n:=Z<|x j c.d (by unfold Zz;rw[HEq];simp[b]);have o:(xG D==s.toList)=false:=by rw[d];simp[b]
 clear b;go_wp2;exact n
def aax(L:lL)(X:dD)(Y:mH)(t:YX)(ht:t.length<=1048576){V:Za}{jx:Nat->Int}{a:Nat}{b:List Pr}(h:kN n V w jx G i a z b)(aa:∀(j:Nat)(q:Pr),b[j]?=some q->q.D=q.E)(hg:rh w)(ac:kM w)(hl:b.length<=100000000):
 Zc prog 57 #[qP i,qT t] w λe w'=>e=.returned (.bool true)/\∃len,b.length<=len/\len<=b.length+1/\ni n V w' i a len:=by
 have F:=Z<|aav L X Y ⟨t.toArray⟩ (by simpa[ByteArray.size]using ht) hg ac;have H:=Z λW=>aaw t W ht;simp only at F;rw[<-aae]at H;obtain⟨pa,pc,rfl,_⟩:=cz h.row;have J:=Z h;have HEq:=Z aa;obtain⟨i0,hi,ad,A,Q⟩:=V5 Nw;cases ho:Zt t with
 |none=>
  rw[ho]at F H;go_in;go_wp2_with refine F.mono ?_;rintro e k⟨c,⟨-,rfl⟩|⟨_,_,_,e,-⟩⟩
  .go_wp2_with apply(H k).mono;rintro e l⟨d,⟨-,rfl⟩|⟨_,_,_,e,-⟩⟩
   .have g:Ze<|ni n V l i a b.length:=⟨jx,G,_,b,(J.below c).below d,rfl,HEq⟩;go_wp2;go_ret;exact⟨rfl,_,qZ,Xn _,g⟩
   cases e
  cases e
 |some D=>
  rw[ho]at F H;go_in;go_wp2_with refine F.mono ?_;rintro e B⟨c,⟨e,-⟩|⟨D1,M,lay,e,rfl,l,P,hm⟩⟩
  .cases e
  cases e;go_wp2_with apply(H B).mono;rintro e d⟨g,⟨e,-⟩|⟨D1,R,vG,e,rfl,hr,y⟩⟩
  .cases e
  cases e;have U:=c.trans<|g.mono c.size;have u:=J.below U;obtain⟨_,af,aj,ah,N,_⟩:=u.law.box;have ae:=lB N;have T:=bC N 4;simp at T;have r:Ze (∀o C E,C.ownsRow 0 71 1 E (b.length+1) (b.map pR++[qP d.heap.size])->((d.alloc<|BB w.heap.size B.heap.size).alloc o).grownBy C (Value.ownBlock<|.slice pa b.length pc)->(E.ownBlock=Value.ownBlock (.slice pa b.length pc)\/E.ownBlock=some (d.heap.size+2))->(∃kv wv vs,C.heap[i]?=some (lp a kv wv (.slice pa b.length pc) vs))/\ni n V (C.setCell ⟨i,4,none⟩ E) i a (b.length+1)):=λo C E h1 h2 h3=>by
   have e0:∀(x:Obj) (W:Za),qB W<|W.alloc x:=λx W=>qA;have a3:=e0 (BB w.heap.size B.heap.size) d;have S:=e0 o<|d.alloc<|BB w.heap.size B.heap.size;have A:=c.size;have Q:=g.size;have T:=U.trans<|(a3.trans<|S.mono<|by simp).mono<|by omega
   obtain ⟨hx,K,hW⟩:=J.push (p:=⟨d.heap.size,w.heap.size,B.heap.size,M,R,lay,vG,D,D⟩) T ⟨bB S (by simp)<|aM _ _,((l.below g).below a3).below S,P.c λk hk=>(T.block k (J.a k hk).2).trans (c.block k (J.a k hk).2).symm,(hr.below a3).below S⟩ (λk hk=>by
    obtain e|e|e:=hk
    .exact hm k e
    .exact Wf A<|y k e
    .have e2:k=d.heap.size:=e;omega) (λk h1 h2=>by have:=y k h1;have:=l.ex.a.lt k h2;omega) ⟨(λe=>by have:=l.ex.a.lt _ e;simp at this;omega),(λe=>by have:=hr.lt _ e;simp at this)⟩ h1 h2<|by simpa using h3
   refine⟨hx,K,G,E,_,hW,by simp,λj q O=>?_⟩;by_cases hj:j<b.length
   .rw[VU hj]at O;exact HEq j q O
   have ab:j=b.length:=by have:=bw O;simp at this;omega
   subst ab;simp at O;subst O;rfl
  have I:=Z u.row;clear l P hm hr y u c g U;go_wp2_with (at_builtin;refine Wv _ rfl (.tmp 35) (.tmp 40) 64 rfl 0 71 i0 _ 1 8 underlying64 hi ad A Q rfl (by decide) _ _ _ rfl ((U<|Z<|I.o.alloc<|BB w.heap.size B.heap.size).alloc _) ⟨_,0,none⟩ 1 1 [qP d.heap.size] rfl rfl ?c1 ?c2 ?c3 ?c4 ?c5 ?_)
  case c1=>
   have:=cW (d.alloc<|BB w.heap.size B.heap.size) [qP d.heap.size] 71;simp only[v_]at this;exact this
  case c2=>intro u k;simp at k;subst k;rfl
  case c3=>unfold maxLen;omega
  case c4=>omega
  case c5=>exact Wi _
  intro v5 C c y _ P;obtain⟨⟨ag,ak,ai,g⟩,(l:Ze _)⟩:=r.o _ C v5 c y (by simpa using P);have y4:=bC g 4;have yf:=bF g 4;have yz:=lB g;simp at y4;obtain⟨xa,xn,xc,rfl⟩:=aF c;go_wp2;go_ret;exact⟨rfl,_,Xn _,qZ,l⟩
def Li{d:Y_}:(callFunc 53 d).run prog w=.ok (.enter 53 d) w:=by
 have g:(f53.name == "runtime.NumGoroutine")=false:=by kernel_rfl
 have c: f53.body.isNone=false:=by kernel_rfl
 have a:¬f53.name = "runtime.NumGoroutine":=by simpa using g
 have b:¬f53.body=none:=by intro e;rw[e]at c;cases c
 simp[callFunc,go_sem,func53,a,b]
def p6(B0:Nat)(w0:Za)(wb came len:Nat)(e:Ending)(w':Za):Prop:=
 e=.returned (.bool true)/\∃came' len',came'<=came+1/\len<=len'/\len'<=len+1/\ni B0 w0 w' wb came' len'
def ni.post(h:ni n w W k i j):p6 n w k i j (.returned<|.bool true) W:=⟨rfl,i,j,by omega,qZ,by omega,h⟩
def aaC(t:YX)(d:t.length<=1048576)(w:Za):Zc prog 54 #[qT t,qI 3] w λe g=>e=.returned (.bool true)/\qB w g:=by
 have c:=Z<|pQ ⟨t.toArray⟩ w d;go_in;go_wp2_with refine c.mono ?_;rintro e h⟨(b:Ze _),a,rfl,-⟩;cases a;all_goals
  go_wp2;go_ret;exact⟨rfl,b⟩
def aay(L:lL)(X:dD)(Y:mH)(HU:E6)(HO:vS)(l E D:Int)(t:YX)(ai:bK E)(ht:t.length<=1048576){jx:Nat->Int}{F a:Nat}{b:List Pr}(h:kN k x w jx G F a z b)(aj:∀(j:Nat)(q:Pr),b[j]?=some q->q.D=q.E)(ap:1<=b.length)(aq:b.length<=70000000)(hc:a<=1100000):
 Zc prog 33 #[qP F,.agg #[qI l,qI E,qI D,qT t],qI 3] w (p6 k x F a b.length):=by
 have ah:qB w<|w.alloc<|.cells #[qI l,qI E,qI D,qT t] 74:=qA;have P:=aM w<|.cells #[qI l,qI E,qI D,qT t] 74;have M:=Z<|h.below ah;have HEq:=Z aj;obtain⟨pa,pc,rfl,_⟩:=cz h.row;have ak:xy E b.length<b.length:=Yx _ (by omega);have ae:=Z λW=>Ul E b.length W ai (by omega) (by omega);go_in;go_upto_region 1 with fail
 generalize w.alloc (.cells #[qI l,qI E,qI D,qT t] 74)=R at*;generalize w.heap.size=ob at*;generalize xy E b.length=i at*;have aa:b[i]?=some b[i]:=VE ak;generalize b[i]=p at*;obtain⟨gp,_,e,_,an,cp⟩:=dA M.row (j:=i) (u:=pR p) (by rw[VO,aa];rfl);cases e;unfold pR at cp;obtain⟨_,az,aB,aA,B,_⟩:=M.law.box;have x4:=bC B 4;simp at x4;have ay:=lB B;have o1:=bC P 1;simp at o1;have ad:=Z P;have o:=Z aa;have ao:(i:Int)<(b.length:Int):=by omega
 go_cut [7] (λs7 wx=>s7=qP p.a/\Ze (qB R wx))
 case first=>
  have d:Ze (Zc prog 53 #[qI E,qI (b.length:Nat)] R.drew λe g=>∃v,e=.returned v/\(v=qI (i:Nat)/\g=R.drew)):=by apply qS<|ae R.drew;exact⟨_,rfl,rfl,rfl⟩
  have c:Ze<|qB R R.drew:=qW.drew
  go_region_law (refine dQ rfl (.tmp 16) (.tmp 21) rfl Li rfl rfl d ?_
                 rintro n r⟨rfl,rfl⟩)
  all_goals go_wp2_with fail
  all_goals go_meet
  all_goals exact⟨rfl,c⟩
 case rest=>
  obtain⟨rfl,HB⟩:=hcut;have g:=bB HB (lB P) ad;have y0:=bC g 0;have y3:=bC g 3;simp at y0 y3;have d:=Z<|M.below HB;have H:=Z g;have K:Ze<|p6 k x F a b.length (.returned<|.bool true) wc:=ni.post ⟨jx,G,_,b,d,rfl,HEq⟩;by_cases S:l=1
  .subst S;go_wp2_with apply(Z<|aaC t ht wc).mono;rintro e N⟨rfl,n⟩;have r:=d.below n;have c:=bB n (lB g) H;have J:=bC c 3;simp at J;have A:=lB c;go_wp2_with fail;apply qR<|Z<|TU L X HU HO t ht r o HEq hc;intro I y;have C:Ze<|p6 k x F a b.length (.returned<|.bool true) I:=⟨rfl,a+1,b.length,by omega,qZ,by omega,y⟩;go_wp2;go_ret;exact C
  have k1:(l==1)=false:=by simp[S]
  by_cases T:l=2
  .subst T;have r:=d.each i p o;have c0:=bC r.box 0;simp at c0;have Q:=lB r.box;have A:Ze<|p.D=p.E:=HEq.o i p o;have V:=Z r;go_wp2_with fail;apply qR<|Z<|Uz Y r.live.ex.a r.a.g;intro w3 I;have y:=d.below I;have c:=y.each i p o;have c1:=bC c.box 1;simp at c1;have N:=lB c.box;have n:=Z<|UA c.ref;rw[<-A]at n;have C:=Z y;generalize xG p.D=sv at*;go_wp2_with fail;apply qR n;intro U J;have O:Ze<|p6 k x F a b.length (.returned<|.bool true) U:=ni.post ⟨jx,G,_,b,C.below J,rfl,HEq⟩;go_wp2;go_ret;simpa using O.o
  have k2:(l==2)=false:=by simp[T]
  by_cases U:l=3
  .subst U;have c:=d.each i p o;go_wp2_with fail;apply qR<|Z<|Sz d HEq ⟨c.live.spell,c.live.err,c.live.ex.rules,c.live.ex.d.2,c.live.pow⟩ c.a.g (by omega);intro y n;have r:Ze<|p6 k x F a b.length (.returned<|.bool true) y:=⟨rfl,a,b.length+1,by omega,by omega,qZ,n⟩;go_wp2;go_ret;exact r
  have k3:(l==3)=false:=by simp[U]
  have A:=d.each i p o;have J:Ze (∀(s:Y9),s.size<=1048576->∀W,qB wc W->Zc prog 57 #[qP F,.string s] W λe w'=>e=.returned (.bool true)/\Ze (p6 k x F a b.length (.returned<|.bool true) w')):=λs hs W hb=>by have n:=d.below hb;have A:=n.each i p o;rw[show(.string s:Value)=qT s.data.toList by simp[qT]];refine(aax L X Y s.data.toList (by rw[ZD];exact hs) n HEq ⟨A.live.spell,A.live.err,A.live.ex.rules,A.live.ex.d.2,A.live.pow⟩ A.a.g<|by omega).mono ?_;rintro e w'⟨rfl,len,r,y,c⟩;exact⟨rfl,rfl,a,len,by omega,r,y,c⟩
  by_cases O:l=4
  .have n:(l != 4)=false:=by simp[O]
   have r:(l==5)=false:=by simp[O]
   go_wp2_with fail;apply qR<|J ⟨t.toArray⟩ (by simpa[ByteArray.size]using ht) wc qW;intro y c;go_wp2;go_ret;exact c
  have k4:(l != 4)=true:=by simp[O]
  by_cases V:l=5
  .subst V;have c1:=bC A.box 1;simp at c1;have aw:=lB A.box;have ag:=Z (ZR A.ref.ok).le;have af:=Z<|UA A.ref;have ab:(⟨(xG p.E).toArray⟩:Y9).size<=93600:=ag;generalize (⟨(xG p.E).toArray⟩:Y9)=y at*;go_wp2_with fail;apply qR af;intro w3 N;have c:=bB N (lB g) H;have z2:=bC c 2;have z3:=bC c 3;simp at z2 z3;have am:=lB c;have I:=Z λs hs=>J s hs w3 N;have ac:=Z N;obtain⟨C,n⟩:∃C:Y9,qT t=.string C:=⟨_,rfl⟩;rw[n]at z3;clear c n;by_cases hn:(0<=D/\D<(y.size:Int))/\C.toList.isEmpty=false
   ·obtain ⟨⟨ar,au⟩,Q⟩:=hn;obtain⟨n,rfl⟩:∃n:Nat,D=n:=⟨D.toNat,by omega⟩;have al:1<=C.size:=by
     rw[toList_data]at Q;rw[<-ZD];cases h:C.data.toList with
     |nil=>rw[h]at Q;cases Q
     |cons c r=>simp
    have av:n<y.size:=by omega
    have s1:((n:Nat):Int)<=((y.size:Nat):Int):=by omega
    have s2:(1:Int)<=((C.size:Nat):Int):=by omega
    have s3:((n+1:Nat):Int)<=((y.size:Nat):Int):=by omega
    obtain⟨e1,h1,r1⟩:∃e:Y9,e.size<=93600/\∀W,(Instr.slice 9 (.string y) none (some<|.int .i64 (n:Int)) none).run prog W=.ok (.string e) W:=⟨y.extract 0 n,by simp;omega,λW=>(run_slice_string_h W _ y underlying9 .i64 n (by omega)<|by omega).trans<|by simp⟩;obtain⟨e2,h2,r2⟩:∃e:Y9,e.size<=1/\∀W,(Instr.slice 9 (.string C) none (some<|.int .i64 1) none).run prog W=.ok (.string e) W:=⟨C.extract 0 1,by simp;omega,λW=>run_slice_string_h W _ C underlying9 .i64 1 (by omega)<|by omega⟩;obtain⟨e3,h3,r3⟩:∃e:Y9,e.size<=93600/\∀W,(Instr.slice 9 (.string y) (some<|.int .i64<|(n:Int)+1) none none).run prog W=.ok (.string e) W:=⟨y.extract (n+1) y.size,by simp;omega,λW=>run_slice_string_l W _ y underlying9 .i64 (n+1) (by omega)<|by omega⟩;have a1:¬(9223372036854775807<e1.size+e2.size):=by omega
    have a2:¬(9223372036854775807<e1.size+e2.size+e3.size):=by omega
    have HH:=Z<|And.intro h1<|And.intro h2 h3;have ax:wrap64 ((n:Int)+1)=((n+1:Nat):Int):=by unfold wrap64;omega
    go_wp2_with fail;clear s1 s2 s3 al h1 h2 h3 ab
    go_quiet (fail)
    go_wp2_with fail;refine qR (J (e1++e2++e3) (by have:=HH.o;simp only[ByteArray.size_append];omega) _<|below_drewN ac _) ?_;intro w4 HE;go_wp2;go_ret;exact HE
   have hz:=ab;by_cases c:0<=D
   .by_cases n:D<(y.size:Int)
    ·have Q:C.toList.isEmpty=true:=by
      cases h:C.toList.isEmpty with
      |true=>rfl
      |false=>exact absurd ⟨⟨c,n⟩,h⟩ hn
     clear hn;go_wp2_with fail;apply qR<|I y (by omega);intro w4 r;go_wp2;go_ret;exact r
    clear hn;go_wp2_with fail;apply qR<|I y (by omega);intro Q r;go_wp2;go_ret;exact r
   clear hn;go_wp2_with fail;apply qR<|I y (by omega);intro r n;go_wp2;go_ret;exact n
  have c:(l != 5)=true:=by simp[V]
  go_wp2;go_ret;exact K
