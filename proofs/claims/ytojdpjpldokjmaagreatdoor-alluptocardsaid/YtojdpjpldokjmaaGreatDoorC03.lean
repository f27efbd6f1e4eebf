import Derived.Deep.Trees
import Derived.Test.YtojdpjpldokjmaaGreatDoorC00
set_option maxHeartbeats 0
set_option maxRecDepth 100000
set_option linter.all false
namespace Go.Proofs.YtojdpjpldokjmaaGreatDoor
open Go.Deep
variable{D E:YV}{k n:Nat}{b:Bool}{a:Int}
structure k_ where
 op:Nat
 aC:Int
 n:Int
 s:YX
 src:YX
 name:YX
abbrev aA:=BT k_
abbrev Y6:=List aA
def fR(aC n:Int)(s:YX):aA:=.node 0 0 ⟨0,aC,n,s,[],[]⟩ .nil .nil
def eB(src name:YX):aA:=.node 0 0 ⟨1,0,0,[],src,name⟩ .nil .nil
def ir(op:Nat)(x:aA):aA:=.node 0 0 ⟨op,0,0,[],[],[]⟩ x .nil
def kL(op:Nat)(x y:aA):aA:=.node 0 0 ⟨op,0,0,[],[],[]⟩ x y
abbrev bg:=YV->Option (aA×YV)
def kJ(k:Nat):Option Nat:=if k=42 then some 18 else none
def i_(k:Nat):Option Nat:=if k=41 then some 17 else none
def iU(k:Nat):Option Nat:=if k=15 then some 6 else if k=16 then some 7 else none
def gz(k:Nat):Option Nat:=if k=17 then some 8 else if k=18 then some 9 else if k=19 then some 10 else none
def eP(k:Nat):Option Nat:=if k=12 then some 11 else if k=4 then some 12 else if k=13 then some 13 else if k=5 then some 14 else if k=14 then some 15 else if k=6 then some 16 else none
def ew(part:bg)(op:Nat->Option Nat):Nat->aA->YV->Option (aA×YV)
 |0,_,_=>none
 |f+1,x,ts=>match op (af ts).k with
  |none=>some (x,ts)
  |some o=>match part ts.tail with
   |none=>none
   |some (y,r)=>ew part op f (kL o x y) r
def du(part:bg)(op:Nat->Option Nat):bg:=λts=>match part ts with
 |none=>none
 |some (x,r)=>ew part op (r.length+1) x r
def dw(val:bg):bg:=λts=>
 if (af ts).k=7 then match val ts.tail with
  |none=>none
  |some (x,r)=>if (af r).k=8 then some (x,r.tail)else none
 else if (af ts).k=46 then some (fR 3 1 [],ts.tail)
 else if (af ts).k=47 then some (fR 3 0 [],ts.tail)
 else if (af ts).k=45 then some (fR 0 0 [],ts.tail)
 else if (af ts).k=2 then some (fR 1 (af ts).n [],ts.tail)
 else if (af ts).k=3 then some (fR 2 0 (af ts).s,ts.tail)
 else if (af ts).k=1 then
  if (af ts.tail).k=10 then
   if (af ts.tail.tail).k=1 then some (eB (af ts).s (af ts.tail.tail).s,ts.tail.tail.tail)else none
  else some (eB [] (af ts).s,ts.tail)
 else none
def gN(vP single:bg):bg:=λts=>
 if (af ts).k=16 then match vP ts.tail with
  |none=>none
  |some (x,r)=>some (ir 2 x,r)
 else single ts
def jJ(x:aA)(ts:YV):Option<|aA×YV:=
 if (af ts).k=43 then (if (af ts.tail).k=45 then some (ir 5 x,ts.tail.tail)else none)
 else if (af ts).k=45 then some (ir 4 x,ts.tail)else none
def fD(sum:bg):bg:=λts=>match sum ts with
 |none=>none
 |some (x,r)=>match eP (af r).k with
  |some o=>match sum r.tail with
   |none=>none
   |some (y,r')=>some (kL o x y,r')
  |none=>if (af r).k=44 then jJ x r.tail else some (x,r)
def mD(di comp:bg):bg:=λts=>
 if (af ts).k=43 then match di ts.tail with
  |none=>none
  |some (x,r)=>some (ir 3 x,r)
 else comp ts
structure dU where
 val:bg
 no:bg
 a:bg
def dU.single(v:dU):bg:=dw v.val
def dU.signed(v:dU):bg:=gN v.a v.single
def dU.prod(v:dU):bg:=du v.signed gz
def dU.sum(v:dU):bg:=du v.prod iU
def dU.comp(v:dU):bg:=fD v.sum
def dU.c(v:dU):bg:=mD v.no v.comp
def dU.both(v:dU):bg:=du v.c i_
def dU.value(v:dU):bg:=du v.both kJ
def iw:Nat->dU
 |0=>⟨λ_=>none,λ_=>none,λ_=>none⟩
 |k+1=>⟨(iw k).value,(iw k).c,(iw k).signed⟩
def eo(k:Nat):bg:=(iw k).value
def cI(p:bg):Prop:=∀ts x r,p ts=some (x,r)->r.length<=ts.length
def bJ(a:YV):a.tail.length<=a.length:=by cases a<;>simp
def wm{a:bg}{e:Nat->Option Nat}(c:cI a):∀(f:Nat)(x:aA)(b:YV)(y:aA)(r:YV),ew a e f x b=some (y,r)->r.length<=b.length
 |0,_,_,_,_,h=>by simp[ew]at h
 |f+1,x,b,y,r,h=>by
  unfold ew at h;split at h
  .simp at h;rw[h.2];exact VR _
  split at h
  .cases h
  rename_i o _ _ z j d;have g:=c _ _ _ d;have i:=wm c f _ _ _ _ h;have:=bJ b;omega
def lP{a:bg}{d:Nat->Option Nat}(b:cI a):cI<|du a d:=by
 intro j x r h;unfold du at h;split at h
 .cases h
 rename_i y i c;have e:=b _ _ _ c;have g:=wm b _ _ _ _ _ h;omega
def CF{a:bg}(c:cI a):cI<|dw a:=by
 intro b x r h;have e:=bJ b;have g:=bJ b.tail;have i:=bJ b.tail.tail;unfold dw at h;repeat' (split at h)
 all_goals first
  |cases h;done
  |(simp at h;obtain⟨_,rfl⟩:=h;omega)
  |(rename_i d _;have:=c _ _ _ d;simp at h;obtain⟨_,rfl⟩:=h;have:=bJ ‹YV›;omega)
def CD{b a:bg}(c:cI b)(d:cI a):cI<|gN b a:=by
 intro g x r h;unfold gN at h;split at h
 .split at h
  .cases h
  rename_i e;have:=c _ _ _ e;have:=bJ g;simp at h;obtain⟨_,rfl⟩:=h;omega
 exact d _ _ _ h
def Fz{a:bg}(c:cI a):cI<|fD a:=by
 intro k x r h;unfold fD at h;split at h
 .cases h
 rename_i y b d;have g:=c _ _ _ d;split at h
 .split at h
  .cases h
  rename_i z j e;have i:=c _ _ _ e;have:=bJ b;simp at h;obtain⟨_,rfl⟩:=h;omega
 have e:=bJ b;have i:=bJ b.tail;have j:=bJ b.tail.tail;unfold jJ at h;repeat' (split at h)
 all_goals first
  |cases h;done
  |(simp at h;obtain⟨_,rfl⟩:=h;omega)
def LB{b a:bg}(c:cI b)(d:cI a):cI<|mD b a:=by
 intro g x r h;unfold mD at h;split at h
 .split at h
  .cases h
  rename_i e;have:=c _ _ _ e;have:=bJ g;simp at h;obtain⟨_,rfl⟩:=h;omega
 exact d _ _ _ h
def pL:∀k,cI (iw k).val/\cI (iw k).no/\cI (iw k).a/\cI (iw k).single/\cI (iw k).signed/\cI (iw k).prod/\cI (iw k).sum/\cI (iw k).comp/\cI (iw k).c/\cI (iw k).both/\cI (iw k).value:=by
 have fU:∀v:dU,cI v.val->cI v.no->cI v.a->cI v.val/\cI v.no/\cI v.a/\cI v.single/\cI v.signed/\cI v.prod/\cI v.sum/\cI v.comp/\cI v.c/\cI v.both/\cI v.value:=by intro v a b c;have d:=CF a;have e:cI v.signed:=CD c d;have f:cI v.prod:=lP e;have g:cI v.sum:=lP f;have i:cI v.comp:=Fz g;have j:cI v.c:=LB b i;have l:cI v.both:=lP j;have m:cI v.value:=lP l;exact⟨a,b,c,d,e,f,g,i,j,l,m⟩
 intro k
 induction k with
 |zero=>exact fU _ (by intro _ _ _ h;cases h) (by intro _ _ _ h;cases h) (by intro _ _ _ h;cases h)
 |succ k ih=>exact fU _ ih.2.2.2.2.2.2.2.2.2.2 ih.2.2.2.2.2.2.2.2.1 ih.2.2.2.2.1
def tW{b:bg}{d:Nat->Option Nat}(i:cI b)(e:d 0=none):∀(f g:Nat)(x:aA)(c:YV),c.length<f->c.length<g->ew b d f x c=ew b d g x c
 |0,_,_,_,h,_=>by omega
 |_,0,_,_,_,h=>by omega
 |f+1,g+1,x,c,hf,hg=>by
  unfold ew;cases ho:d (af c).k with
  |none=>rfl
  |some o=>
   cases hz:b c.tail with
   |none=>rfl
   |some z=>
    obtain⟨y,r⟩:=z;have h:=i _ _ _ hz;have j:c.tail.length<c.length:=by
     cases c with
     |nil=>simp[af,jV,e]at ho
     |cons a l=>simp
    exact tW i e f g _ _ (by omega)<|by omega
def tu{a:bg}{b:Nat->Option Nat}{x:aA}(h:b (af D).k=none):ew a b (D.length+1) x D=some (x,D):=by rw[ew,h]
def tt{a:bg}{b:Nat->Option Nat}{x:aA}(h:b (af D).k=some n)(c:a D.tail=none):ew a b (D.length+1) x D=none:=by rw[ew,h];simp only;rw[c]
def p8{b:bg}{c:Nat->Option Nat}(g:cI b)(d:c 0=none){x y:aA}(h:c (af D).k=some n)(e:b D.tail=some (y,E)):
 ew b c (D.length+1) x D=ew b c (E.length+1) (kL n x y) E/\E.length<D.length:=by
 have i:=g _ _ _ e;have j:D.tail.length<D.length:=by
  cases D with
  |nil=>simp[af,jV,d]at h
  |cons a l=>simp
 constructor
 .rw[ew,h];simp only;rw[e];simp only;exact tW g d _ _ _ _ (by omega)<|by omega
 .omega
structure ay where
 name:YX
 aY:YX
 type:Int
 aW:aA
 eC:Bool
abbrev Y3:=List ay
abbrev h_:=YV->Option (ay×YV)
def dW(p:h_):Nat->Y3->YV->Option (Y3×YV)
 |0,_,_=>none
 |f+1,acc,ts=>match p ts with
  |none=>none
  |some (x,r)=>if (af r).k=9 then dW p f (acc++[x]) r.tail else some (acc++[x],r)
def bR(p:h_)(ts:YV):Option<|Y3×YV:=dW p (ts.length+1) [] ts
def lN(p:h_):Prop:=∀ts x r,p ts=some (x,r)->r.length<=ts.length
def xk{p:h_}(d:lN p):∀(f g:Nat)(b:Y3)(c:YV),c.length<f->c.length<g->dW p f b c=dW p g b c
 |0,_,_,_,h,_=>by omega
 |_,0,_,_,_,h=>by omega
 |f+1,g+1,b,c,hf,hg=>by
  unfold dW;cases hz:p c with
  |none=>rfl
  |some z=>
   obtain⟨x,r⟩:=z;simp only;have h:=d _ _ _ hz;split
   ·rename_i e;have i:r.tail.length<r.length:=by
     cases r with
     |nil=>simp[af,jV]at e
     |cons a l=>simp
    exact xk d f g _ _ (by omega)<|by omega
   rfl
def ko{p:h_}{a:Y3}(h:p D=none):dW p (D.length+1) a D=none:=by rw[dW,h]
def mS{p:h_}{a:Y3}{x:ay}(h:p D=some (x,E))(b:(af E).k≠9):dW p (D.length+1) a D=some (a++[x],E):=by rw[dW,h];simp only;rw[VF b]
def l3{p:h_}(c:lN p){acc:Y3}{x:ay}(h:p D=some (x,E))(b:(af E).k=9):
 dW p (D.length+1) acc D=dW p (E.tail.length+1) (acc++[x]) E.tail/\E.tail.length<D.length:=by
 have d:=c _ _ _ h;have e:E.tail.length<E.length:=by
  cases E with
  |nil=>simp[af,jV]at b
  |cons a l=>simp
 constructor
 .rw[dW,h];simp only;rw[VG b];exact xk c _ _ _ _ (by omega)<|by omega
 .omega
def bX:bg:=λts=>if (af ts).k=27 then eo 20 ts.tail else some (.nil,ts)
def dc:h_:=λts=>match eo 20 ts with
 |none=>none
 |some (x,r)=>some (⟨[],[],0,x,false⟩,r)
def gP(k:Nat):Option Int:=if k=48 then some 1 else if k=49 then some 2 else if k=50 then some 3 else none
def dL:h_:=λts=>if (af ts).k=1 then match gP (af ts.tail).k with
 |none=>none
 |some t=>some (⟨(af ts).s,[],t,.nil,false⟩,ts.tail.tail)
 else none
def fh:h_:=λts=>if (af ts).k=1 then
 if (af ts.tail).k=12 then match eo 20 ts.tail.tail with
  |none=>none
  |some (x,r)=>some (⟨(af ts).s,[],0,x,false⟩,r)
 else none
 else none
def gd:h_:=λts=>match eo 20 ts with
 |none=>none
 |some (x,r)=>if (af r).k=38 then some (⟨[],[],0,x,true⟩,r.tail)else some (⟨[],[],0,x,false⟩,r)
def cg:h_:=λts=>if (af ts).k=1 then
 if (af ts.tail).k=32 then (if (af ts.tail.tail).k=1 then some (⟨(af ts).s,(af ts.tail.tail).s,0,.nil,false⟩,ts.tail.tail.tail)else none)
 else some (⟨(af ts).s,(af ts).s,0,.nil,false⟩,ts.tail)
 else none
def qY:cI<|eo 20:=(pL 20).2.2.2.2.2.2.2.2.2.2
def o6:lN dc:=by
 intro b x r h;unfold dc at h;split at h
 .cases h
 rename_i a;have:=qY _ _ _ a;simp at h;obtain⟨_,rfl⟩:=h;exact this
def ui:lN dL:=by
 intro a x r h;have b:=bJ a;have c:=bJ a.tail;unfold dL at h;split at h
 .split at h
  .cases h
  simp at h;obtain⟨_,rfl⟩:=h;omega
 cases h
def yY:lN fh:=by
 intro a x r h;have c:=bJ a;have d:=bJ a.tail;unfold fh at h;split at h
 .split at h
  .split at h
   .cases h
   rename_i b;have:=qY _ _ _ b;simp at h;obtain⟨_,rfl⟩:=h;omega
  cases h
 cases h
def sD:lN gd:=by
 intro d x r h;unfold gd at h;split at h
 .cases h
 rename_i y b a;have:=qY _ _ _ a;have c:=bJ b;split at h
 .simp at h;obtain⟨_,rfl⟩:=h;omega
 simp at h;obtain⟨_,rfl⟩:=h;exact this
def dE(left:Bool)(ts:YV):Option<|ay×YV:=match cg ts with
 |none=>none
 | some (it,r)=>if (af r).k=35 then (match eo 20 r.tail with
  |none=>none
  |some (x,r')=>some (⟨it.name,it.aY,0,x,left⟩,r'))else none
def dJ:Nat->Y3->YV->Option (Y3×YV)
 |0,_,_=>none
 |f+1,acc,ts=>
  if (af ts).k=33 then (if (af ts.tail).k=34 then (match dE true ts.tail.tail with
      |none=>none
      |some (it,r)=>dJ f (acc++[it]) r)else none)
  else if (af ts).k=34 then (match dE false ts.tail with
   |none=>none
   |some (it,r)=>dJ f (acc++[it]) r)
  else some (acc,ts)
def dn(ts:YV):Option<|Y3×YV:=match cg ts with
 |none=>none
 |some (it,r)=>dJ (r.length+1) [it] r
def n_:lN cg:=by
 intro a x r h;have b:=bJ a;have c:=bJ a.tail;have d:=bJ a.tail.tail;unfold cg at h;repeat' (split at h)
 all_goals first
  |cases h;done
  |(simp at h;obtain⟨_,rfl⟩:=h;omega)
def kG(left:Bool):lN<|dE left:=by
 intro i x r h;unfold dE at h;split at h
 .cases h
 rename_i e b hs;have c:=n_ _ _ _ hs;have g:=bJ b;split at h
 .split at h
  .cases h
  rename_i a;have d:=qY _ _ _ a;simp at h;obtain⟨_,rfl⟩:=h;omega
 cases h
def fV(b:k≠0)(h:(af D).k=k):D.tail.length<D.length:=by
 cases D with
 |nil=>simp[af,jV]at h;exact absurd h.symm b
 |cons a l=>simp
def o7:∀(f g:Nat)(a:Y3)(b:YV),b.length<f->b.length<g->dJ f a b=dJ g a b
 |0,_,_,_,h,_=>by omega
 |_,0,_,_,_,h=>by omega
 |f+1,g+1,a,b,hf,hg=>by
  unfold dJ;split
  .rename_i c;have e:=fV (by decide) c;split
   .rename_i d;have h:=fV (by decide) d;cases hj:dE true b.tail.tail with
    |none=>rfl
    |some z=>
     have:=kG true _ z.1 z.2 hj;exact o7 f g _ _ (by omega)<|by omega
   rfl
  split
  .rename_i c;have d:=fV (by decide) c;cases hj:dE false b.tail with
   |none=>rfl
   |some z=>
    have:=kG false _ z.1 z.2 hj;exact o7 f g _ _ (by omega)<|by omega
  rfl
def mu(left:Bool)(ts r:YV):Prop:=if left=true then (af ts).k=33/\(af ts.tail).k=34/\r=ts.tail.tail else (af ts).k=34/\r=ts.tail
def wZ{left:Bool}(h:mu left D E):E.length<D.length:=by
 unfold mu at h;split at h
 .obtain⟨a,b,rfl⟩:=h;have c:=fV (by decide) a;have d:=fV (by decide) b;omega
 obtain⟨a,rfl⟩:=h;exact fV (by decide) a
def oS{left:Bool}{a:Y3}(h:mu left D E):dJ (D.length+1) a D=match dE left E with|none=>none|some (it,r')=>dJ (r'.length+1) (a++[it]) r':=by
 have d:=wZ h;have key:∀z:ay×YV,dE left E=some z->dJ D.length (a++[z.1]) z.2=dJ (z.2.length+1) (a++[z.1]) z.2:=λz e=>by have:=kG left _ z.1 z.2 e;exact o7 _ _ _ _ (by omega)<|by omega
 unfold mu at h;unfold dJ;cases left with
 |true=>
  simp only[if_true]at h;obtain⟨b,c,rfl⟩:=h;rw[VG b,VG c];cases hj:dE true D.tail.tail with
  |none=>rfl
  |some z=>exact key z hj
 |false=>
  simp only[WJ,if_false]at h;obtain⟨b,rfl⟩:=h;rw[VF<|by omega,VG b];cases hj:dE false D.tail with
  |none=>rfl
  |some z=>exact key z hj
def w_{a:Y3}(b:(af D).k≠33)(c:(af D).k≠34):dJ (D.length+1) a D=some (a,D):=by rw[dJ,VF b,VF c]
def sN{a:Y3}(b:(af D).k=33)(c:(af D.tail).k≠34):dJ (D.length+1) a D=none:=by rw[dJ,VG b,VF c]
structure aX where
 aC:Int
 table:YX
 c:Y3
 b:Y3
 d:aA
 e:Y3
 a:Bool
 all:Bool
 g:Int
 offset:Int
abbrev CS:=YV->Option (aX×YV)
def dR(ts:YV):Option<|(Int×Int)×YV:=
 if (af ts).k=39 then
  if (af ts.tail).k=2 then
   if (af ts.tail.tail).k=40 then
    if (af ts.tail.tail.tail).k=2 then some (((af ts.tail).n,(af ts.tail.tail.tail).n),ts.tail.tail.tail.tail)else none
   else some (((af ts.tail).n,0),ts.tail.tail)
  else none
 else some ((-1,0),ts)
def eT(ts:YV):Option<|Y3×YV:=
 if (af ts).k=36 then (if (af ts.tail).k=37 then bR gd ts.tail.tail else none)else some ([],ts)
def eZ(ts:YV):Option<|(Bool×Y3)×YV:=
 if (af ts).k=17 then some ((true,[]),ts.tail)else match bR dc ts with
  |none=>none
  |some (l,r)=>some ((false,l),r)
def ik(dis all:Bool)(aD bl:Y3)(wh:aA)(el:Y3)(ts:YV):Option<|aX×YV:=match dR ts with
 |none=>none
 |some z=>some (⟨115,[],aD,bl,wh,el,dis,all,z.1.1,z.1.2⟩,z.2)
def mE(dis all:Bool)(aD bl:Y3)(wh:aA):Option (Y3×YV)->Option (aX×YV)
 |none=>none
 |some y=>ik dis all aD bl wh y.1 y.2
def nO(dis all:Bool)(aD bl:Y3):Option (aA×YV)->Option (aX×YV)
 |none=>none
 |some z=>mE dis all aD bl z.1<|eT z.2
def kR(dis all:Bool)(aD bl:Y3)(ts:YV):Option<|aX×YV:=nO dis all aD bl<|bX ts
def mC(dis all:Bool)(aD:Y3):Option (Y3×YV)->Option (aX×YV)
 |none=>none
 |some z=>if 3<z.1.length then none else kR dis all aD z.1 z.2
def kA(dis all:Bool)(aD:Y3)(ts:YV):Option<|aX×YV:=if (af ts).k=26 then mC dis all aD (dn ts.tail)else none
def gF(ts:YV):YV:=if (af ts).k=31 then ts.tail else ts
def ck:CS:=λts=>match eZ (gF ts)with
 |none=>none
 |some z=>kA ((af ts).k==31) z.1.1 z.1.2 z.2
def uI(h:eZ (gF D)=none):ck D=none:=by unfold ck;rw[h]
def po{a:Y3}(h:eZ (gF D)=some ((b,a),E)):ck D=kA ((af D).k==31) b a E:=by unfold ck;rw[h]
def eM(aC:Int)(table:YX)(aD:Y3)(wh:aA):aX:=⟨aC,table,aD,[],wh,[],false,false,0,0⟩
def fK (p:h_)(ts:YV):Option<|Y3 × YV:=if (af ts).k=7 then (match bR p ts.tail with
 |none=>none
 |some (l,r)=>if (af r).k=8 then some (l,r.tail)else none)else none
def dB:CS:=λts=>if (af ts).k=21 then
 if (af ts.tail).k=1 then match fK dL ts.tail.tail with
  |none=>none
  |some (l,r)=>if 5<l.length then none else some (eM 99 (af ts.tail).s l .nil,r)
 else none
 else none
def dP:CS:=λts=>if (af ts).k=23 then
 if (af ts.tail).k=1 then
  if (af ts.tail.tail).k=24 then match fK dc ts.tail.tail.tail with
   |none=>none
   |some (l,r)=>some (eM 105 (af ts.tail).s l .nil,r)
  else none
 else none
 else none
def ez:CS:=λts=>if (af ts).k=26 then
 if (af ts.tail).k=1 then match bX ts.tail.tail with
  |none=>none
  |some (wh,r)=>some (eM 100 (af ts.tail).s [] wh,r)
 else none
 else none
def eA:CS:=λts=>if (af ts).k=1 then
 if (af ts.tail).k=29 then match bR fh ts.tail.tail with
  |none=>none
  |some (l,r)=>match bX r with
   |none=>none
   |some (wh,r')=>some (eM 117 (af ts).s l wh,r')
 else none
 else none
def aJ:CS:=λts=>
 if (af ts).k=20 then dB ts.tail
 else if (af ts).k=22 then dP ts.tail
 else if (af ts).k=25 then ez ts.tail
 else if (af ts).k=28 then eA ts.tail
 else if (af ts).k=30 then ck ts.tail
 else none
def iT(r:YV):YV:=if (af r).k=11 then r.tail else r
def kK:Option (aX×YV)->Option aX
 |none=>none
 |some z=>if (af<|iT z.2).k=0 then some z.1 else none
def bp(l:YX):Option aX:=if 600<l.length then none else kK (aJ<|de l)
def pB(ts:YV):Prop:=∀t∈ts,t.k≠99
def bu(r ts:YV):Prop:=(pB r->pB ts)/\∀t∈r,t∈ts
def bu.refl(a:YV):bu a a:=⟨id,λ_ h=>h⟩
def bu.trans{c:YV}(h:bu D E)(k:bu E c):bu D c:=⟨λx=>k.1<|h.1 x,λt a=>k.2 t<|h.2 t a⟩
def bu.tail(h:(af D).k≠99):bu D.tail D:=by
 cases D with
 |nil=>exact bu.refl _
 |cons a l=>
  refine⟨λd t b=>?_,λt b=>WH _ b⟩;obtain rfl|c:=V8.1 b
  .exact h
  exact d t c
def bu.c{k:Nat}(a:k≠99)(h:(af D).k=k):bu D.tail D:=bu.tail<|by omega
def e8{α:Type}(p:YV->Option (α×YV)):Prop:=∀ts x r,p ts=some (x,r)->bu r ts
def yN{a:bg}{i:Nat->Option Nat}(g:e8 a)(c:i 99=none):∀(f:Nat)(x:aA)(b:YV)(y:aA)(r:YV),ew a i f x b=some (y,r)->bu r b
 |0,_,_,_,_,h=>by simp[ew]at h
 |f+1,x,b,y,r,h=>by
  unfold ew at h;split at h
  .simp at h;rw[h.2];exact bu.refl _
  rename_i o d;split at h
  .cases h
  rename_i z k j;exact((yN g c f _ _ _ _ h).trans<|g _ _ _ j).trans (bu.tail (λe=>by rw[e,c]at d;cases d))
def mJ{a:bg}{c:Nat->Option Nat}(b:e8 a)(d:c 99=none):e8<|du a c:=by
 intro i x r h;unfold du at h;split at h
 .cases h
 rename_i y g e;exact(yN b d _ _ _ _ _ h).trans (b _ _ _ e)
def ED{a:bg}(d:e8 a):e8<|dw a:=by
 intro i x r h;unfold dw at h;split at h
 .rename_i b;split at h
  .cases h
  rename_i y g e;split at h
  .rename_i c;simp at h;obtain⟨_,rfl⟩:=h;exact((bu.c (by decide) c).trans<|d _ _ _ e).trans (bu.c (by decide) b)
  cases h
 repeat' (split at h)
 all_goals first
  |cases h;done
  |(simp at h;obtain⟨_,rfl⟩:=h;exact bu.tail<|by omega)
  |(simp at h;obtain⟨_,rfl⟩:=h;exact((bu.tail<|by omega).trans<|bu.tail<|by omega).trans (bu.tail<|by omega))
def EC{c a:bg}(d:e8 c)(e:e8 a):e8<|gN c a:=by
 intro i x r h;unfold gN at h;split at h
 .rename_i b;split at h
  .cases h
  rename_i g;simp at h;obtain⟨_,rfl⟩:=h;exact(d _ _ _ g).trans (bu.c (by decide) b)
 exact e _ _ _ h
def NA{x:aA}{y:aA}(h:jJ x D=some (y,E)):bu E D:=by
 unfold jJ at h;repeat' (split at h)
 all_goals first
  |cases h;done
  |(simp at h;obtain⟨_,rfl⟩:=h;exact bu.tail<|by omega)
  |(simp at h;obtain⟨_,rfl⟩:=h;exact(bu.tail<|by omega).trans (bu.tail<|by omega))
def Ih{a:bg}(d:e8 a):e8<|fD a:=by
 intro l x r h;unfold fD at h;split at h
 .cases h
 rename_i y j g;have b:=d _ _ _ g;split at h
 .rename_i o c;split at h
  .cases h
  rename_i z k i;simp at h;obtain⟨_,rfl⟩:=h;exact((d _ _ _ i).trans<|bu.tail (λe=>by rw[e]at c;cases c)).trans b
 split at h
 .rename_i c;exact((NA h).trans<|bu.c (by decide) c).trans b
 simp at h;obtain⟨_,rfl⟩:=h;exact b
def N0{c a:bg}(d:e8 c)(e:e8 a):e8<|mD c a:=by
 intro i x r h;unfold mD at h;split at h
 .rename_i b;split at h
  .cases h
  rename_i g;simp at h;obtain⟨_,rfl⟩:=h;exact(d _ _ _ g).trans (bu.c (by decide) b)
 exact e _ _ _ h
def NP:∀k,e8 (iw k).value/\e8 (iw k).c/\e8 (iw k).signed:=by
 have fU:∀v:dU,e8 v.val->e8 v.no->e8 v.a->e8 v.value/\e8 v.c/\e8 v.signed:=by intro v a b c;have e:e8 v.signed:=EC c<|ED a;have f:e8 v.prod:=mJ e rfl;have g:e8 v.sum:=mJ f rfl;have i:e8 v.comp:=Ih g;have j:e8 v.c:=N0 b i;have l:e8 v.both:=mJ j rfl;have m:e8 v.value:=mJ l rfl;exact⟨m,j,e⟩
 intro k
 induction k with
 |zero=>exact fU _ (by intro _ _ _ h;cases h) (by intro _ _ _ h;cases h) (by intro _ _ _ h;cases h)
 |succ k ih=>exact fU _ ih.1 ih.2.1 ih.2.2
def nQ:e8<|eo 20:=(NP 20).1
def Bl{p:h_}(b:e8 p):∀(f:Nat)(a:Y3)(c:YV)(y:Y3)(r:YV),dW p f a c=some (y,r)->bu r c
 |0,_,_,_,_,h=>by simp[dW]at h
 |f+1,a,c,y,r,h=>by
  unfold dW at h;split at h
  .cases h
  rename_i z g d;split at h
  .rename_i e;exact((Bl b f _ _ _ _ h).trans<|bu.c (by decide) e).trans (b _ _ _ d)
  simp at h;obtain⟨_,rfl⟩:=h;exact b _ _ _ d
def nD{p:h_}(a:e8 p):e8<|bR p:=λ_ _ _ h=>Bl a _ _ _ _ _ h
def tg:e8 bX:=by
 intro b x r h;unfold bX at h;split at h
 .rename_i a;exact(nQ _ _ _ h).trans (bu.c (by decide) a)
 simp at h;obtain⟨_,rfl⟩:=h;exact bu.refl _
def wV:e8 dc:=by
 intro b x r h;unfold dc at h;split at h
 .cases h
 rename_i a;simp at h;obtain⟨_,rfl⟩:=h;exact nQ _ _ _ a
def EN(h:gP k=some a):k≠99:=by intro e;subst e;cases h
def D_:e8 dL:=by
 intro c x r h;unfold dL at h;split at h
 .rename_i a;split at h
  .cases h
  rename_i b;simp at h;obtain⟨_,rfl⟩:=h;exact(bu.tail<|EN b).trans (bu.c (by decide) a)
 cases h
def IE:e8 fh:=by
 intro d x r h;unfold fh at h;split at h
 .rename_i b;split at h
  .rename_i a;split at h
   .cases h
   rename_i c;simp at h;obtain⟨_,rfl⟩:=h;exact((nQ _ _ _ c).trans<|bu.c (by decide) a).trans (bu.c (by decide) b)
  cases h
 cases h
def ID:e8 gd:=by
 intro d x r h;unfold gd at h;split at h
 .cases h
 rename_i y c b;split at h
 .rename_i a;simp at h;obtain⟨_,rfl⟩:=h;exact(bu.c (by decide) a).trans (nQ _ _ _ b)
 simp at h;obtain⟨_,rfl⟩:=h;exact nQ _ _ _ b
def uj:e8 cg:=by
 intro a x r h;unfold cg at h;repeat' (split at h)
 all_goals first
  |cases h;done
  |(simp at h;obtain⟨_,rfl⟩:=h;exact bu.tail<|by omega)
  |(simp at h;obtain⟨_,rfl⟩:=h;exact((bu.tail<|by omega).trans<|bu.tail<|by omega).trans (bu.tail<|by omega))
def yX(left:Bool):e8<|dE left:=by
 intro e x r h;unfold dE at h;split at h
 .cases h
 rename_i c d hs;split at h
 .rename_i a;split at h
  .cases h
  rename_i b;simp at h;obtain⟨_,rfl⟩:=h;exact((nQ _ _ _ b).trans<|bu.c (by decide) a).trans (uj _ _ _ hs)
 cases h
def sM:∀(f:Nat)(a:Y3)(d:YV)(y:Y3)(r:YV),dJ f a d=some (y,r)->bu r d
 |0,_,_,_,_,h=>by simp[dJ]at h
 |f+1,a,d,y,r,h=>by
  unfold dJ at h;split at h
  .rename_i b;split at h
   .rename_i c;split at h
    .cases h
    rename_i e;exact(((sM f _ _ _ _ h).trans<|yX _ _ _ _ e).trans<|bu.c (by decide) c).trans (bu.c (by decide) b)
   cases h
  split at h
  .rename_i b;split at h
   .cases h
   rename_i c;exact((sM f _ _ _ _ h).trans<|yX _ _ _ _ c).trans (bu.c (by decide) b)
  simp at h;obtain⟨_,rfl⟩:=h;exact bu.refl _
def CG:e8 dn:=by
 intro a y r h;unfold dn at h;split at h
 .cases h
 rename_i hs;exact(sM _ _ _ _ _ h).trans (uj _ _ _ hs)
def Gh:e8 dR:=by
 intro a x r h;unfold dR at h;repeat' (split at h)
 all_goals first
  |cases h;done
  |(simp at h;obtain⟨_,rfl⟩:=h;exact bu.refl _)
  |(simp at h;obtain⟨_,rfl⟩:=h;exact(bu.tail<|by omega).trans (bu.tail<|by omega))
  |(simp at h;obtain⟨_,rfl⟩:=h;exact(((bu.tail<|by omega).trans<|bu.tail<|by omega).trans<|bu.tail<|by omega).trans (bu.tail<|by omega))
def IV:e8 eT:=by
 intro c x r h;unfold eT at h;split at h
 .rename_i a;split at h
  .rename_i b;exact((nD ID _ _ _ h).trans<|bu.c (by decide) b).trans (bu.c (by decide) a)
  cases h
 simp at h;obtain⟨_,rfl⟩:=h;exact bu.refl _
def JI:e8 eZ:=by
 intro b x r h;unfold eZ at h;split at h
 .rename_i a;simp at h;obtain⟨_,rfl⟩:=h;exact bu.c (by decide) a
 split at h
 .cases h
 rename_i a;simp at h;obtain⟨_,rfl⟩:=h;exact nD wV _ _ _ a
def GD:e8 ck:=by
 intro b x r h;unfold ck at h;split at h
 .cases h
 rename_i z l;have d:bu z.2<|gF b:=JI _ z.1 z.2 l;have c:bu (gF b) b:=by unfold gF;split;exact bu.c (k:=31) (by decide) ‹_›;exact bu.refl _
 refine bu.trans ?_<|d.trans c;unfold kA at h;split at h
 .rename_i a;refine bu.trans ?_<|bu.c (by decide) a;unfold mC at h;split at h
  .cases h
  rename_i y j;split at h
  .cases h
  refine bu.trans ?_<|CG _ y.1 y.2 j;unfold kR nO at h;split at h
  .cases h
  rename_i v i;refine bu.trans ?_<|tg _ v.1 v.2 i;unfold mE at h;split at h
  .cases h
  rename_i u g;refine bu.trans ?_<|IV _ u.1 u.2 g;unfold ik at h;split at h
  .cases h
  rename_i q e;simp at h;obtain⟨_,rfl⟩:=h;exact Gh _ q.1 q.2 e
 cases h
def wW{p:h_}(d:e8 p):e8<|fK p:=by
 intro e x r h;unfold fK at h;split at h
 .rename_i a;split at h
  .cases h
  rename_i c;split at h
  .rename_i b;simp at h;obtain⟨_,rfl⟩:=h;exact((bu.c (by decide) b).trans<|nD d _ _ _ c).trans (bu.c (by decide) a)
  cases h
 cases h
def zT:e8 aJ:=by
 intro g x r h;unfold aJ at h;split at h
 .rename_i a;refine bu.trans ?_<|bu.c (by decide) a;unfold dB at h;split at h
  .rename_i b;split at h
   .rename_i c;split at h
    .cases h
    rename_i d;split at h
    .cases h
    simp at h;obtain⟨_,rfl⟩:=h;exact((wW D_ _ _ _ d).trans<|bu.c (by decide) c).trans (bu.c (by decide) b)
   cases h
  cases h
 split at h
 .rename_i a;refine bu.trans ?_<|bu.c (by decide) a;unfold dP at h;split at h
  .rename_i b;split at h
   .rename_i d;split at h
    .rename_i c;split at h
     .cases h
     rename_i e;simp at h;obtain⟨_,rfl⟩:=h;exact(((wW wV _ _ _ e).trans<|bu.c (by decide) c).trans<|bu.c (by decide) d).trans (bu.c (by decide) b)
    cases h
   cases h
  cases h
 split at h
 .rename_i a;refine bu.trans ?_<|bu.c (by decide) a;unfold ez at h;split at h
  .rename_i b;split at h
   .rename_i c;split at h
    .cases h
    rename_i d;simp at h;obtain⟨_,rfl⟩:=h;exact((tg _ _ _ d).trans<|bu.c (by decide) c).trans (bu.c (by decide) b)
   cases h
  cases h
 split at h
 .rename_i a;refine bu.trans ?_<|bu.c (by decide) a;unfold eA at h;split at h
  .rename_i c;split at h
   .rename_i b;split at h
    .cases h
    rename_i d;split at h
    .cases h
    rename_i e;simp at h;obtain⟨_,rfl⟩:=h;exact(((tg _ _ _ e).trans<|nD IE _ _ _ d).trans<|bu.c (by decide) b).trans (bu.c (by decide) c)
   cases h
  cases h
 split at h
 .rename_i a;exact(GD _ _ _ h).trans (bu.c (by decide) a)
 cases h
def Es{l:YX}(h:¬pB (de l)):kK (aJ<|de l)=none:=by
 cases hp:aJ (de l)with
 |none=>rfl
 |some z=>
  have hs:bu z.2<|de l:=zT _ z.1 z.2 hp;unfold kK;simp only;split
  .rename_i e;exfalso;apply h;have c:bu (iT z.2) z.2:=by unfold iT;split;exact bu.c (k:=11) (by decide) ‹_›;exact bu.refl _
   refine(c.trans hs).1 ?_;have b:=λt d=>(c.trans hs).2 t d;cases hq:iT z.2 with
   |nil=>intro t d;cases d
   |cons a q=>
    rw[hq]at e;have i:a.k=0:=e;obtain g|g:=zD (l.length+1) l a (by omega)<|b a (by rw[hq];simp)
    .omega
    rw[g]at i;cases i
  rfl
