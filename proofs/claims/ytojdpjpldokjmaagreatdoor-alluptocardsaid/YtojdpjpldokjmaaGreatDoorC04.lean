import Derived.Lib.Small
import Derived.Lib.Bytealg
import Derived.Test.YtojdpjpldokjmaaGreatDoorC03
set_option maxHeartbeats 0
set_option maxRecDepth 100000
set_option linter.all false
namespace Go.Proofs.YtojdpjpldokjmaaGreatDoor
open Go.Deep
variable{i j k n:Nat}{R S:aA}{D E:YV}{M a:Int}{X Y:YX}{L b:Bool}
structure ai where
 aC:Int
 n:Int
 s:YX
abbrev YW:=List ai
def ai.same(a b:ai):Bool:=a.aC==b.aC&&(a.n==b.n&&a.s==b.s)
def ai.q(a b:ai):ai.same a b=true↔a=b:=by obtain⟨k,n,s⟩:=a;obtain⟨c,d,e⟩:=b;simp[ai.same]
def ai.d{a b:ai}(h:a=b):ai.same a b=true:=(ai.q a b).2 h
def ai.l{a b:ai}(h:¬a=b):ai.same a b=false:=by
 cases hs:ai.same a b with
 |false=>rfl
 |true=>exact absurd ((ai.q a b).1 hs) h
def j3(a b:ai):Decidable<|a=b:=if h:ai.same a b=true then .isTrue ((ai.q a b).1 h)else .isFalse (λe=>h<|ai.d e)
def aE:ai:=⟨0,0,[]⟩
def bh(b:Bool):ai:=⟨3,if b=true then 1 else 0,[]⟩
def ai.c(v:ai):Bool:=v.aC==0
abbrev aV(α:Type):=Except Nat α
def fe(n:Int):aV ai:=if -9223372036854775808<=n/\n<=9223372036854775807 then .ok ⟨1,n,[]⟩else .error 4
def dd(op:Nat)(a b:Int):aV ai:=
 if op=6 then fe (a+b)else if op=7 then fe (a-b)else if op=8 then fe (a*b)
 else if b=0 then .error 5 else if op=10 then .ok ⟨1,Int.tmod a b,[]⟩else fe (Int.tdiv a b)
def dz(a b:ai):Int:=if (a.c||b.c)=true then Lib.compareInt a.aC b.aC else if a.aC=2 then Lib.compareBytes a.s b.s else Lib.compareInt a.n b.n
def lU(op:Nat)(o:Int):Bool:=
 if op=11 then o==0 else if op=12 then o != 0 else if op=13 then decide (o<0)else if op=14 then decide (o<=0)else if op=15 then decide (0<o)else decide (0<=o)
def oq(v:ai):ai:=if v.c=true then v else bh (v.n==0)
def mB(v:ai):aV ai:=if v.c=true then .ok v else fe (-v.n)
def fM(l r kY:ai):ai:=@ite _ (r=kY\/r.c=true) (@instDecidableOr _ _ (j3 r kY) _) r l
def il(op:Nat)(v:ai):aV ai:=if op=2 then mB v else if op=3 then .ok (oq v)else .ok (bh<|v.c==(op==4))
def fH(op:Nat)(l r:ai):aV ai:=
 if op=17\/op=18 then .ok (fM l r<|bh<|op==18)else if (l.c||r.c)=true then .ok aE
 else if op<=10 then dd op l.n r.n else .ok (bh<|lU op<|dz l r)
structure ah where
 src:YX
 name:YX
 type:Int
abbrev YY:=List ah
def ah.is(src name:YX)(c:ah):Bool:=c.name==name&&(src==[]||c.src==src)
def eF(src name:YX):YY->Nat->Option Nat->Option Nat
 |[],_,f=>f
 | c :: cs,i,f=>if c.is src name=true then (match f with
  |some _=>none
  |none=>eF src name cs (i+1)<|some i)else eF src name cs (i+1) f
def eE(ab:YY)(src name:YX):Option Nat:=eF src name ab 0 none
def ft(ab:YY)(i:Nat):Int:=match ab[i]? with
 |some c=>c.type
 |none=>0
def dt(a b:Int):Bool:=a==b||a==0||b==0
def cD(op:Nat):Int:=if op=3\/op=17\/op=18 then 3 else if op=4\/op=5\/(11<=op/\op<=16)then 0 else 1
def eR(op:Nat):Int:=if op=2\/(6<=op/\op<=10)then 1 else 3
def fm(op:Nat)(a b:Int):aV Int:=if (dt a (cD op)&&dt b (cD op)&&dt a b)=true then .ok (eR op)else .error 3
def bD(ab:YY):aA->aV Int
 |.nil=>.ok 0
 |.node _ _ p l r=>
  if p.op=0 then .ok p.aC
  else if p.op=1 then (match eE ab p.src p.name with
   |some i=>.ok<|ft ab i
   |none=>.error 2)
  else match bD ab l with
   |.error e=>.error e
   |.ok a=>if p.op<=5 then fm p.op a a else match bD ab r with
    |.error e=>.error e
    |.ok b=>fm p.op a b
def mQ(p:k_):ai:=⟨p.aC,p.n,p.s⟩
def mq(ab:YY)(p:k_):Nat:=(eE ab p.src p.name).getD 0
def bZ(ab:YY)(row:YW):aA->aV ai
 |.nil=>.ok aE
 |.node _ _ p l r=>
  if p.op=0 then .ok (mQ p)
  else if p.op=1 then .ok (row.getD (mq ab p) aE)
  else match bZ ab row l with
   |.error e=>.error e
   |.ok a=>if p.op<=5 then il p.op a
    else @ite _ (17<=p.op/\a=bh (p.op == 18)) (@instDecidableAnd _ _ _<|j3 a<|bh<|p.op == 18) (.ok a) (match bZ ab row r with
     |.error e=>.error e
     |.ok b=>fH p.op a b)
structure cQ where
 aC:Nat
 v:ai
 place:Nat
def cy(ab:YY):Nat->aA->List cQ
 |_,.nil=>[]
 |b,.node _ _ p l r=>
  if p.op=0 then [⟨0,mQ p,0⟩]
  else if p.op=1 then [⟨1,aE,mq ab p⟩]
  else if p.op<=5 then cy ab b l++[⟨p.op+2,aE,0⟩]
  else if p.op<=16 then cy ab b l++(cy ab (b+(cy ab b l).length) r++[⟨p.op+2,aE,0⟩])
  else cy ab b l++(⟨p.op-15,aE,b+(cy ab b l).length+1+(cy ab (b+(cy ab b l).length+1) r).length+1⟩::(cy ab (b+(cy ab b l).length+1) r++[⟨p.op+2,aE,0⟩]))
def ib:aA->Prop
 |.nil=>False
 |.node _ _ p l r=>p.op<=18/\(p.op<=1\/(p.op<=5/\ib l)\/(ib l/\ib r))/\(6<=p.op->ib r)/\(2<=p.op->ib l)
def cF(code:List cQ)(row:YW):Nat->Nat->YW->Option (aV ai)
 |0,_,_=>none
 |f+1,i,st=>match code[i]? with
  | none=>(match st with
   |v::_=>some<|.ok v
   |[]=>none)
  |some c=>
   if c.aC=0 then cF code row f (i+1) (c.v::st)
   else if c.aC=1 then (if c.place<row.length then cF code row f (i+1) (row.getD c.place aE::st)else none)
   else match st with
    |[]=>none
    |v::st1=>
     if c.aC=2\/c.aC=3 then (@ite _ (v=bh (c.aC==3)) (j3 v<|bh<|c.aC==3) (cF code row f c.place st)<|cF code row f (i+1) st)
     else if c.aC<=7 then (match il (c.aC-2) v with
      |.error e=>some<|.error e
      |.ok u=>cF code row f (i+1)<|u::st1)
     else match st1 with
      |[]=>none
      |u::st2=>match fH (c.aC-2) u v with
       |.error e=>some<|.error e
       |.ok x=>cF code row f (i+1)<|x::st2
def jI{a:List cQ}{b:YW}:∀{f:Nat}{i:Nat}{d:YW}{x:aV ai},cF a b f i d=some x->cF a b (f+1) i d=some x
 |0,_,_,_,h=>by simp[cF]at h
 |f+1,i,d,x,h=>by
  unfold cF at h ⊢;split at h
  .exact h
  rename_i c g;split at h
  .rw[VG ‹_›];exact jI h
  rw[VF ‹_›];split at h
  .rw[VG ‹_›];split at h
   .rw[VG ‹_›];exact jI h
   cases h
  rw[VF ‹_›];cases d with
  |nil=>simp at h
  |cons v st1=>
   simp only at h ⊢;split at h
   .rw[VG ‹_›];split at h
    .rw[VG ‹_›];exact jI h
    rw[VF ‹_›];exact jI h
   rw[VF ‹_›];split at h
   .rw[VG ‹_›];cases ha:il (c.aC-2) v with
    |error e=>rw[ha]at h;exact h
    |ok u=>rw[ha]at h;exact jI h
   rw[VF ‹_›];cases st1 with
   |nil=>simp at h
   |cons u st2=>
    simp only at h ⊢;cases ha:fH (c.aC-2) u v with
    |error e=>rw[ha]at h;exact h
    |ok y=>rw[ha]at h;exact jI h
def Gp{a:List cQ}{b:YW}{f:Nat}{c:YW}{x:aV ai}(k:Nat)(h:cF a b f i c=some x):cF a b (f+k) i c=some x:=by
 induction k with
 |zero=>exact h
 |succ k ih=>exact jI ih
def I4{a:List cQ}{b:YW}{f:Nat}{c:YW}{x:aV ai}(d:f<=n)(h:cF a b f i c=some x):cF a b n i c=some x:=by obtain⟨k,rfl⟩:=Nat.exists_eq_add_of_le d;exact Gp k h
def nL{a c d b:List cQ}(h:a=c++(d++b))(j:Nat)(e:j<d.length):a[c.length+j]?=d[j]?:=by
 rw[h,VW<|by omega,VU<|by omega]
 congr 1;omega
def zt{a:List cQ}{b:YW}{f:Nat}{d:YW}{c:cQ}(e:a[i]?=some c)(g:c.aC=0):cF a b (f+1) i d=cF a b f (i+1) (c.v::d):=by rw[cF.eq_def];simp only;rw[e];simp only;rw[VG g]
def zr{a:List cQ}{b:YW}{f:Nat}{d:YW}{c:cQ}(e:a[i]?=some c)(g:c.aC=1)(h:c.place<b.length):cF a b (f+1) i d=cF a b f (i+1) (b.getD c.place aE::d):=by rw[cF.eq_def];simp only;rw[e];simp only;rw[VF<|by omega,VG g,VG h]
def xO{a:List cQ}{row:YW}{f:Nat}{v:ai}{st:YW}{c:cQ}(b:a[i]?=some c)(d:c.aC=2\/c.aC=3):cF a row (f+1) i (v::st)=@ite _ (v=bh (c.aC==3)) (j3 v<|bh<|c.aC==3) (cF a row f c.place<|v::st) (cF a row f (i+1)<|v::st):=by rw[cF,b];simp only;rw[VF<|by omega,VF<|by omega,VG d]
def zu{a:List cQ}{row:YW}{f:Nat}{v:ai}{st:YW}{c:cQ}(d:a[i]?=some c)(g:4<=c.aC)(b:c.aC<=7):cF a row (f+1) i (v::st)=match il (c.aC-2) v with
 |.error e=>some<|.error e
 |.ok u=>cF a row f (i+1)<|u::st:=by
 rw[cF,d];simp only;rw[VF<|by omega,VF<|by omega,VF<|by omega,VG b]
def td{a:List cQ}{row:YW}{f:Nat}{u v:ai}{st:YW}{c:cQ}(b:a[i]?=some c)(d:8<=c.aC):cF a row (f+1) i (v::u::st)=match fH (c.aC-2) u v with
 |.error e=>some<|.error e
 |.ok x=>cF a row f (i+1)<|x::st:=by
 rw[cF,b];simp only;rw[VF<|by omega,VF<|by omega,VF<|by omega,VF<|by omega]
def mo(k:YY)(n:List cQ)(d:YW):∀(t:aA)(pre post:List cQ)(f:Nat)(o:YW),ib t->(∃B,bD k t=.ok B)->(k.length<=d.length)->n=pre++(cy k pre.length t++post) ->
 (∀v,bZ k d t=.ok v->∀x,cF n d f (pre.length+(cy k pre.length t).length) (v::o)=some x->cF n d (f+(cy k pre.length t).length) pre.length o=some x) /\
 (∀e,bZ k d t=.error e->cF n d (f+(cy k pre.length t).length) pre.length o=some (.error e))
 |.nil,_,_,_,_,h,_,_,_=>absurd h id
 |.node a1 a2 p l r,pre,post,f,o,hw,htc,hrow,hcode=>by
  obtain⟨P,_,H,D⟩:=hw;by_cases q:p.op=0
  .have b:cy k pre.length (.node a1 a2 p l r)=[⟨0,mQ p,0⟩]:=by rw[cy,VG q]
   have F:bZ k d (.node a1 a2 p l r)=.ok (mQ p):=by rw[bZ,VG q]
   rw[b]at hcode ⊢;have a:=nL hcode 0 (by simp);simp only[V_,Ye,Yu]at a ⊢;rw[F];refine⟨λv c x g=>?_,λe h=>by cases h⟩;cases c;rw[zt a rfl];exact g
  by_cases w:p.op=1
  .have b:cy k pre.length (.node a1 a2 p l r)=[⟨1,aE,mq k p⟩]:=by rw[cy,VF q,VG w]
   have F:bZ k d (.node a1 a2 p l r)=.ok (d.getD (mq k p) aE):=by rw[bZ,VF q,VG w]
   have hi:mq k p<d.length:=by
    obtain⟨B,I⟩:=htc;rw[bD,VF q,VG w]at I;have A:∀(a:YY) (i:Nat) (g:Option Nat) (j:Nat),(∀j,g=some j->j<i)->eF p.src p.name a i g=some j->j<i+a.length:=by
     intro a
     induction a with
     |nil=>intro i g j b h;exact b j h
     |cons c a M=>
      intro i g j b h;unfold eF at h;split at h
      .split at h
       .cases h
       have:=M (i+1) (some i) j (λj N=>by cases N;omega) h;simp;omega
      have:=M (i+1) g j (λj N=>by have:=b j N;omega) h;simp;omega
    unfold mq;cases hcol:eE k p.src p.name with
    |none=>rw[hcol]at I;cases I
    |some i=>
     have:=A k 0 none i (λj c=>by cases c) hcol;simp;omega
   rw[b]at hcode ⊢;have K:=nL hcode 0 (by simp);simp only[V_,Ye,Yu]at K ⊢;rw[F];refine⟨λv O x Q=>?_,λe h=>by cases h⟩;cases O;rw[zr K rfl hi];exact Q
  have C:∃B,bD k l=.ok B:=by
   obtain⟨B,b⟩:=htc;rw[bD,VF q,VF w]at b;cases hl:bD k l with
   |error e=>rw[hl]at b;cases b
   |ok a=>exact⟨a,rfl⟩
  have J:¬p.op<=5->∃B,bD k r=.ok B:=by
   intro y;obtain⟨B,b⟩:=htc;rw[bD,VF q,VF w]at b;cases hl:bD k l with
   |error e=>rw[hl]at b;cases b
   |ok a=>
    rw[hl]at b;simp only at b;rw[VF y]at b;cases hr:bD k r with
    |error e=>rw[hr]at b;cases b
    |ok a=>exact⟨a,rfl⟩
  have F:bZ k d (.node a1 a2 p l r)=match bZ k d l with
   |.error e=>.error e
   |.ok a=>if p.op<=5 then il p.op a
    else @ite _ (17<=p.op/\a=bh (p.op == 18)) (@instDecidableAnd _ _ _<|j3 a<|bh<|p.op == 18) (.ok a) (match bZ k d r with
     |.error e=>.error e
     |.ok b=>fH p.op a b):=by rw[bZ,VF q,VF w]
  rw[F];generalize z:cy k pre.length l=L at*;by_cases y:p.op<=5
  .have i:cy k pre.length (.node a1 a2 p l r)=L++[⟨p.op+2,aE,0⟩]:=by rw[cy,VF q,VF w,VG y,z]
   rw[i]at hcode ⊢;have g:n[pre.length+L.length]?=some ⟨p.op+2,aE,0⟩:=by have:=nL hcode L.length (by simp);rw[this];simp
   have b:=λf=>mo k n d l pre ([⟨p.op+2,aE,0⟩]++post) f o (D<|by omega) C hrow (by rw[z,hcode];simp);rw[z]at b;simp only[VH,V_];rw[show f+(L.length+1)=(f+1)+L.length from by omega];cases hl:bZ k d l with
   |error e=>
    refine⟨λv a=>by simp at a,λc h=>?_⟩;simp at h;subst h;exact(b<|f+1).2 e hl
   |ok a=>
    simp only;rw[VG y];have hs:=zu (f:=f) (row:=d) (v:=a) (st:=o) g (show 4<=p.op+2 by omega) (show p.op+2<=7 by omega);simp only[Xi]at hs;refine⟨λv j x c=>?_,λe h=>?_⟩
    .refine(b<|f+1).1 a hl x ?_;rw[hs,j];simp only;rw[<-YO]at c;exact c
    refine(b<|f+1).1 a hl _ ?_;rw[hs,h]
  have G:=J y;by_cases E:p.op<=16
  .generalize i:cy k (pre.length+L.length) r=R at*;have I:cy k pre.length (.node a1 a2 p l r)=L++(R++[⟨p.op+2,aE,0⟩]):=by rw[cy,VF q,VF w,VF y,VG E,z,i]
   rw[I]at hcode ⊢;have A:n[pre.length+(L.length+R.length)]?=some ⟨p.op+2,aE,0⟩:=by have:=nL hcode (L.length+R.length) (by simp);rw[this,VW<|by omega,VW<|by omega];simp
   have c:=λf=>mo k n d l pre (R++[⟨p.op+2,aE,0⟩]++post) f o (D<|by omega) C hrow (by rw[z,hcode];simp);have g:=λf o=>mo k n d r (pre++L) ([⟨p.op+2,aE,0⟩]++post) f o (H<|by omega) G hrow (by rw[VH,i,hcode];simp);rw[z]at c;simp only[VH,i]at g;simp only[VH,V_];rw[show f+(L.length+(R.length+1))=((f+1)+R.length)+L.length from by omega];cases hl:bZ k d l with
   |error e=>
    refine⟨λv a=>by simp at a,λb h=>?_⟩;simp at h;subst h;exact(c _).2 e hl
   |ok a=>
    simp only;rw[VF y,VF<|by omega];cases hr:bZ k d r with
    |error e=>
     refine⟨λv b=>by simp at b,λj h=>?_⟩;simp at h;subst h;exact(c _).1 a hl _ ((g (f+1)<|a::o).2 e hr)
    |ok b=>
     simp only;have hs:=td (f:=f) (row:=d) (u:=a) (v:=b) (st:=o) A (show 8<=p.op+2 by omega);simp only[Xi]at hs;refine⟨λv K x j=>?_,λe h=>?_⟩
     .refine(c _).1 a hl x ((g (f+1)<|a::o).1 b hr x ?_);rw[YO,hs,K];simp only;rw[show pre.length+(L.length+(R.length+1))=pre.length+(L.length+R.length)+1 from by omega]at j;exact j
     refine(c _).1 a hl _ ((g (f+1)<|a::o).1 b hr _ ?_);rw[YO,hs,h]
  generalize I:cy k (pre.length+L.length+1) r=R at*;have N:cy k pre.length (.node a1 a2 p l r)=L++(⟨p.op-15,aE,pre.length+L.length+1+R.length+1⟩::(R++[⟨p.op+2,aE,0⟩])):=by rw[cy,VF q,VF w,VF y,VF E,z,I]
  rw[N]at hcode ⊢;have O:n[pre.length+L.length]?=some ⟨p.op-15,aE,pre.length+L.length+1+R.length+1⟩:=by have:=nL hcode L.length (by simp);rw[this,VW<|by omega];simp
  have M:n[pre.length+(L.length+1+R.length)]?=some ⟨p.op+2,aE,0⟩:=by have:=nL hcode (L.length+1+R.length) (by simp;omega);rw[this,VW<|by omega,show L.length+1+R.length-L.length=R.length+1 from by omega,Xv,VW<|by omega];simp
  have i:=λf=>mo k n d l pre ((⟨p.op-15,aE,pre.length+L.length+1+R.length+1⟩::(R++[⟨p.op+2,aE,0⟩]))++post) f o (D<|by omega) C hrow (by rw[z,hcode];simp);have A:=λf o=>mo k n d r (pre++L++[⟨p.op-15,aE,pre.length+L.length+1+R.length+1⟩]) ([⟨p.op+2,aE,0⟩]++post) f o (H<|by omega) G hrow (by simp only[VH,V_,I];rw[hcode];simp);rw[z]at i;simp only[VH,V_,I]at A;simp only[VH,Wk,WR];rw[show f+(L.length+(R.length+(0+1)+1))=(((f+1)+R.length)+1)+L.length from by omega];have c:(p.op-15==3)=(p.op==18):=by rw[WB];simp;omega
  have j:=λf a=>xO (f:=f) (row:=d) (v:=a) (st:=o) O (show p.op-15=2\/p.op-15=3 by omega);cases hl:bZ k d l with
  |error e=>
   refine⟨λv b=>by simp at b,λg h=>?_⟩;simp at h;subst h;exact(i _).2 e hl
  |ok a=>
   simp only;rw[VF y];by_cases g:a=bh (p.op==18)
   .rw[VG ⟨by omega,g⟩];refine⟨λv K x b=>?_,λe h=>by cases h⟩;cases K;refine(i _).1 a hl x ?_;rw[j,VG<|c▸g];refine I4 (f:=f) (by omega) ?_;rw[show pre.length+(L.length+(R.length+(0+1)+1))=pre.length+L.length+1+R.length+1 from by omega]at b;exact b
   rw[VF λh=>g h.2];cases hr:bZ k d r with
   |error e=>
    refine⟨λv b=>by simp at b,λK h=>?_⟩;simp at h;subst h;refine(i _).1 a hl _ ?_;rw[j,VF<|c▸g];have:=(A (f+1)<|a::o).2 e hr;exact this
   |ok b=>
    simp only;have hs:=td (f:=f) (row:=d) (u:=a) (v:=b) (st:=o) M (show 8<=p.op+2 by omega);simp only[Xi]at hs;refine⟨λv Q x K=>?_,λe h=>?_⟩
    .refine(i _).1 a hl x ?_;rw[j,VF<|c▸g];refine(A (f+1)<|a::o).1 b hr x ?_;rw[show pre.length+L.length+1+R.length=pre.length+(L.length+1+R.length)from by omega,hs,Q];simp only;rw[show pre.length+(L.length+(R.length+(0+1)+1))=pre.length+(L.length+1+R.length)+1 from by omega]at K;exact K
    refine(i _).1 a hl _ ?_;rw[j,VF<|c▸g];refine(A (f+1)<|a::o).1 b hr _ ?_;rw[show pre.length+L.length+1+R.length=pre.length+(L.length+1+R.length)from by omega,hs,h]
def D7(b:YY)(a:YW)(g:ib R)(d:∃i,bD b R=.ok i)(c:b.length<=a.length):cF (cy b 0 R) a ((cy b 0 R).length+1) 0 []=some (bZ b a R):=by
 have h:=mo b (cy b 0 R) a R [] [] 1 [] g d c (by simp);simp only[WR,XC]at h;rw[aaE];cases he:bZ b a R with
 |error e=>exact h.2 e he
 |ok v=>
  refine h.1 v he _ ?_;rw[cF];rw[V7<|by omega]
def eH:aA->Nat
 |.nil=>0
 |.node _ _ _ l r=>eH l+eH r+1
def gI:aA->Prop
 |.nil=>True
 |.node _ _ p l r=>(p.op=0->(p.aC=0/\p.n=0/\p.s=[])\/(p.aC=1/\p.s=[]/\0<=p.n/\p.n<=9223372036854775807)\/(p.aC=2/\p.n=0/\p.s.length<=40)\/(p.aC=3/\(p.n=0\/p.n=1)/\p.s=[]))/\gI l/\gI r
def ZE(l:YX):Prop:=l.length<=10/\∀c∈l,c≠39/\c≠10
def dr(ts:YV):Prop:=∀t∈ts,(t.k=2->0<=t.n/\t.n<=9223372036854775807)/\(t.k=3->t.s.length<=40)/\(t.k=1->ZE t.s/\t.s≠[])
def eK(p:bg):Prop:=∀ts x r,dr ts->p ts=some (x,r)->ib x/\gI x/\eH x+r.length<=ts.length/\dr r
def dr.tail(h:dr D):dr D.tail:=λt a=>h t<|YI a
def dr.c(h:dr D):((af D).k=2->0<=(af D).n/\(af D).n<=9223372036854775807)/\((af D).k=3->(af D).s.length<=40)/\((af D).k=1->ZE (af D).s/\(af D).s≠[]):=by
 cases D with
 |nil=>exact⟨λh=>(by cases h),λh=>(by cases h),λh=>(by cases h)⟩
 |cons a l=>exact h a<|by simp
def eO(h:(af D).k=k)(a:k≠0):D.tail.length+1=D.length:=by have:=fV a h;simp at this ⊢;omega
def zx{ts:YV}(h:(af ts).k≠0):ts.tail.length+1=ts.length:=eO rfl h
def zE(g:6<=n)(a:n<=18)(b:ib R)(c:ib S)(d:gI R)(e:gI S):ib (kL n R S)/\gI (kL n R S):=by unfold kL;exact⟨⟨a,.inr<|.inr ⟨b,c⟩,λ_=>c,λ_=>b⟩,⟨λh=>absurd h (show n≠0 by omega),d,e⟩⟩
def oV{o:Nat}(d:2<=o)(b:o<=5)(a:ib R)(c:gI R):ib (ir o R)/\gI (ir o R):=by unfold ir;exact⟨⟨show o<=18 by omega,.inr<|.inl ⟨b,a⟩,λh=>absurd (show 6<=o from h)<|by omega,λ_=>a⟩,⟨λh=>absurd h (show o≠0 by omega),c,trivial⟩⟩
def tY{a:bg}{i:Nat->Option Nat}(l:eK a)(j:i 0=none)(b:∀k o,i k=some o->6<=o/\o<=18):∀(f:Nat)(x:aA)(d:YV)(y:aA)(r:YV),dr d->ib x->gI x->ew a i f x d=some (y,r)->ib y/\gI y/\eH y+r.length<=eH x+d.length/\dr r
 |0,_,_,_,_,_,_,_,h=>by simp[ew]at h
 |f+1,x,d,y,r,n,p,q,h=>by
  unfold ew at h;split at h
  .simp at h;obtain⟨rfl,rfl⟩:=h;exact⟨p,q,VR _,n⟩
  rename_i o g;split at h
  .cases h
  rename_i z J D;obtain⟨t,u,G,w⟩:=l _ _ _ n.tail D;obtain⟨E,F⟩:=b _ _ g;have c:=zE E F p t q u;obtain⟨A,B,H,C⟩:=tY l j b f _ _ _ _ w c.1 c.2 h;refine⟨A,B,?_,C⟩;have I:=zx (ts:=d) (λe=>by rw[e,j]at g;cases g);have:eH (kL o x z)=eH x+eH z+1:=rfl;omega
def kV{a:bg}{c:Nat->Option Nat}(d:eK a)(p:c 0=none)(b:∀k o,c k=some o->6<=o/\o<=18):eK<|du a c:=by
 intro A x r q h;unfold du at h;split at h
 .cases h
 rename_i y z t;obtain⟨e,g,u,i⟩:=d _ _ _ q t;obtain⟨j,l,w,n⟩:=tY d p b _ _ _ _ _ i e g h;exact⟨j,l,by omega,n⟩
def lD{aC n:Int}{s:YX}(h:(aC=0/\n=0/\s=[])\/(aC=1/\s=[]/\0<=n/\n<=9223372036854775807)\/(aC=2/\n=0/\s.length<=40)\/(aC=3/\(n=0\/n=1)/\s=[])):ib (fR aC n s)/\gI (fR aC n s)/\eH (fR aC n s)=1:=by unfold fR;exact⟨⟨by simp,.inl<|by simp,λh=>absurd h<|by simp,λh=>absurd h<|by simp⟩,⟨λ_=>h,trivial,trivial⟩,rfl⟩
def xo(b a:YX):ib (eB b a)/\gI (eB b a)/\eH (eB b a)=1:=by unfold eB;exact⟨⟨by simp,.inl<|by simp,λh=>absurd h<|by simp,λh=>absurd h<|by simp⟩,⟨λh=>absurd h<|by simp,trivial,trivial⟩,rfl⟩
def zR{c:bg}(k:eK c):eK<|dw c:=by
 intro b x r a h;unfold dw at h;split at h
 .rename_i i;split at h
  .cases h
  rename_i y p l;split at h
  .rename_i j;simp at h;obtain⟨rfl,rfl⟩:=h;obtain⟨d,e,o,g⟩:=k _ _ _ a.tail l;have:=eO i (by decide);have:=eO j (by decide);exact⟨d,e,by omega,g.tail⟩
  cases h
 split at h
 .simp at h;obtain⟨rfl,rfl⟩:=h;have d:=lD (aC:=3) (n:=1) (s:=[]) (by simp);have:=eO ‹_› (by decide);exact⟨d.1,d.2.1,by omega,a.tail⟩
 split at h
 .simp at h;obtain⟨rfl,rfl⟩:=h;have d:=lD (aC:=3) (n:=0) (s:=[]) (by simp);have:=eO ‹_› (by decide);exact⟨d.1,d.2.1,by omega,a.tail⟩
 split at h
 .simp at h;obtain⟨rfl,rfl⟩:=h;have d:=lD (aC:=0) (n:=0) (s:=[]) (by simp);have:=eO ‹_› (by decide);exact⟨d.1,d.2.1,by omega,a.tail⟩
 split at h
 .rename_i d;simp at h;obtain⟨rfl,rfl⟩:=h;have e:=lD (aC:=1) (n:=(af b).n) (s:=[]) (by have:=a.c.1 d;simp;omega);have:=eO d (by decide);exact⟨e.1,e.2.1,by omega,a.tail⟩
 split at h
 .rename_i d;simp at h;obtain⟨rfl,rfl⟩:=h;have e:=lD (aC:=2) (n:=0) (s:=(af b).s) (by have:=a.c.2.1 d;simp;omega);have:=eO d (by decide);exact⟨e.1,e.2.1,by omega,a.tail⟩
 split at h
 .rename_i i;have:=eO i (by decide);split at h
  .rename_i d;have:=eO d (by decide);split at h
   .rename_i e;have:=eO e (by decide);simp at h;obtain⟨rfl,rfl⟩:=h;have g:=xo (af b).s (af b.tail.tail).s;exact⟨g.1,g.2.1,by omega,a.tail.tail.tail⟩
   cases h
  simp at h;obtain⟨rfl,rfl⟩:=h;have d:=xo [] (af b).s;exact⟨d.1,d.2.1,by omega,a.tail⟩
 cases h
def zQ{e a:bg}(k:eK e)(l:eK a):eK<|gN e a:=by
 intro t x r d h;unfold gN at h;split at h
 .rename_i b;split at h
  .cases h
  rename_i z q n;simp at h;obtain⟨rfl,rfl⟩:=h;obtain⟨g,i,p,j⟩:=k _ _ _ d.tail n;have:=eO b (by decide);have c:=oV (o:=2) (by decide) (by decide) g i;have:eH (ir 2 z)=eH z+0+1:=rfl;exact⟨c.1,c.2,by omega,j⟩
 exact l _ _ _ d h
def IP(d:dr D)(e:ib R)(g:gI R)(h:jJ R D=some (S,E)):ib S/\gI S/\eH S+E.length<=eH R+D.length/\dr E:=by
 unfold jJ at h;split at h
 .rename_i a;have:=eO a (by decide);split at h
  .rename_i b;have:=eO b (by decide);simp at h;obtain⟨rfl,rfl⟩:=h;have c:=oV (o:=5) (by decide) (by decide) e g;have:eH (ir 5 R)=eH R+0+1:=rfl;exact⟨c.1,c.2,by omega,d.tail.tail⟩
  cases h
 split at h
 .rename_i a;have:=eO a (by decide);simp at h;obtain⟨rfl,rfl⟩:=h;have b:=oV (o:=4) (by decide) (by decide) e g;have:eH (ir 4 R)=eH R+0+1:=rfl;exact⟨b.1,b.2,by omega,d.tail⟩
 cases h
def yP(h:eP k=some n):6<=n/\n<=18/\k≠0:=by
 unfold eP at h;repeat' (split at h)
 all_goals first
  |(cases h;done)
  |(cases h;omega)
def DY{b:bg}(g:eK b):eK<|fD b:=by
 intro F x r p h;unfold fD at h;split at h
 .cases h
 rename_i y D q;obtain⟨c,d,i,e⟩:=g _ _ _ p q;split at h
 .rename_i o n;split at h
  .cases h
  rename_i z E t;simp at h;obtain⟨rfl,rfl⟩:=h;obtain⟨j,k,B,l⟩:=g _ _ _ e.tail t;obtain⟨u,w,A⟩:=yP n;have a:=zE u w c j d k;have C:=zx A;have:eH (kL o y z)=eH y+eH z+1:=rfl;exact⟨a.1,a.2,by omega,l⟩
 split at h
 .rename_i a;obtain⟨j,k,n,l⟩:=IP e.tail c d h;have:=eO a (by decide);exact⟨j,k,by omega,l⟩
 simp at h;obtain⟨rfl,rfl⟩:=h;exact⟨c,d,i,e⟩
def I8{c a:bg}(k:eK c)(l:eK a):eK<|mD c a:=by
 intro t x r e h;unfold mD at h;split at h
 .rename_i b;split at h
  .cases h
  rename_i z q n;simp at h;obtain⟨rfl,rfl⟩:=h;obtain⟨g,i,p,j⟩:=k _ _ _ e.tail n;have:=eO b (by decide);have d:=oV (o:=3) (by decide) (by decide) g i;have:eH (ir 3 z)=eH z+0+1:=rfl;exact⟨d.1,d.2,by omega,j⟩
 exact l _ _ _ e h
def Bs(k o:Nat)(h:kJ k=some o):6<=o/\o<=18:=by unfold kJ at h;split at h<;>cases h;omega
def yJ(k o:Nat)(h:i_ k=some o):6<=o/\o<=18:=by unfold i_ at h;split at h<;>cases h;omega
def zv(k o:Nat)(h:iU k=some o):6<=o/\o<=18:=by
 unfold iU at h;repeat' (split at h)
 all_goals first
  |(cases h;done)
  |(cases h;omega)
def xA(k o:Nat)(h:gz k=some o):6<=o/\o<=18:=by
 unfold gz at h;repeat' (split at h)
 all_goals first
  |(cases h;done)
  |(cases h;omega)
def I2:∀k,eK (iw k).value/\eK (iw k).c/\eK (iw k).signed:=by
 have fU:∀v:dU,eK v.val->eK v.no->eK v.a->eK v.value/\eK v.c/\eK v.signed:=by intro v a b c;have e:eK v.signed:=zQ c<|zR a;have f:eK v.prod:=kV e rfl xA;have g:eK v.sum:=kV f rfl zv;have i:eK v.comp:=DY g;have j:eK v.c:=I8 b i;have l:eK v.both:=kV j rfl yJ;have m:eK v.value:=kV l rfl Bs;exact⟨m,j,e⟩
 intro k
 induction k with
 |zero=>exact fU _ (by intro _ _ _ _ h;cases h) (by intro _ _ _ _ h;cases h) (by intro _ _ _ _ h;cases h)
 |succ k ih=>exact fU _ ih.1 ih.2.1 ih.2.2
def ng:eK<|eo 20:=(I2 20).1
def qx:∀(a l:YX),(bj a l).1.k=3->(bj a l).1.s.length<=40
 |_,[],h=>by simp[bj,dF]at h
 |a,[c],h=>by
  unfold bj at h ⊢;split at h
  .rw[VG ‹_›];simp only at h ⊢;split at h
   .simp[dF]at h
   rw[VF ‹_›];simp;omega
  simp[dF]at h
 |a,c::d::r,h=>by
  unfold bj at h ⊢;split at h
  .rw[VG ‹_›];split at h
   .rw[VG ‹_›];exact qx _ _ h
   rw[VF ‹_›];simp only at h ⊢;split at h
   .simp[dF]at h
   rw[VF ‹_›];simp;omega
  rw[VF ‹_›];exact qx _ _ h
def OV{p:UInt8->Bool}{c:UInt8}{r:YX}(h:p c=true):(c::r).takeWhile p≠[]:=by rw[W9 h];simp
def IY(l:YX):((aO l).1.k=2->0<=(aO l).1.n/\(aO l).1.n<=9223372036854775807)/\((aO l).1.k=3->(aO l).1.s.length<=40)/\((aO l).1.k=1->ZE (aO l).1.s/\(aO l).1.s≠[]):=by
 unfold aO;generalize l.dropWhile bW=m;cases m with
 |nil=>exact⟨λh=>(by cases h),λh=>(by cases h),λh=>(by cases h)⟩
 |cons c r=>
  simp only[cK];split
  .rename_i a;have b:=OV (p:=dV) (c:=c) (r:=r)<|sI a;have e:∀d∈List.takeWhile dV (c::r),d≠39/\d≠10:=λd af=>⟨by rintro rfl;exact absurd (pM af)<|by decide,by rintro rfl;exact absurd (pM af)<|by decide⟩;generalize List.takeWhile dV (c::r)=w at b e;simp only[da];split
   .rename_i i hi;have:=lY hi;exact⟨λh=>by simp at h;omega,λh=>by simp at h;omega,λh=>by simp at h;omega⟩
   split
   .exact⟨λh=>by simp[dF]at h,λh=>by simp[dF]at h,λh=>by simp[dF]at h⟩
   exact⟨λh=>by simp at h,λh=>by simp at h,λ_=>⟨⟨by simp;omega,e⟩,b⟩⟩
  split
  .simp only[ed];split
   .exact⟨λh=>by simp[dF]at h,λh=>by simp[dF]at h,λh=>by simp[dF]at h⟩
   refine⟨λ_=>⟨?_,by simp;omega⟩,λh=>by simp at h,λh=>by simp at h⟩;exact o4 _ 0 (YF 0) λd af=>pM af
  split
  .have a:=mR [] r;refine⟨λh=>?_,qx [] r,λh=>?_⟩
   .obtain a|a:=a
    .omega
    rw[a]at h;simp[dF]at h
   obtain a|a:=a
   .omega
   rw[a]at h;simp[dF]at h
  have a:=xJ<|c::r;refine⟨λh=>?_,λh=>?_,λh=>?_⟩;all_goals
   obtain a|a|a:=a
   .rw[a]at h;simp[jV]at h
   .omega
   .rw[a]at h;simp[dF]at h
def vM:∀(n:Nat)(l:YX),l.length<n->dr (de l)
 |0,_,h=>by omega
 |n+1,l,hn=>by
  rw[gw];obtain h|h|h:=nM l
  .rw[h,VG (show jV.k=0 from rfl)];intro t a;cases a
  .rw[VF<|by omega,VF<|by omega];intro t a;obtain rfl|a:=V8.1 a
   .exact IY l
   exact vM n (aO l).2 (by have:=jz l (by omega);omega) t a
  rw[h,VF<|by decide,VG<|by decide];intro t a;simp at a;subst a;exact⟨λh=>by simp[dF]at h,λh=>by simp[dF]at h,λh=>by simp[dF]at h⟩
def oI:∀(n:Nat)(l:YX),l.length<n->(de l).length<=l.length
 |0,_,h=>by omega
 |n+1,l,hn=>by
  rw[gw];obtain h|h|h:=nM l
  .rw[h,VG (show jV.k=0 from rfl)];simp
  .rw[VF<|by omega,VF<|by omega];have:=jz l (by omega);have:=oI n (aO l).2 (by omega);simp;omega
  have:=jz l (by rw[h];decide);rw[h,VF<|by decide,VG<|by decide];simp;omega
def qo(a:YY):∀(t:aA)(b:Nat),(cy a b t).length<=2*eH t
 |.nil,b=>by simp[cy]
 |.node a1 a2 p l r,b=>by
  have c:=qo a l b;have d:=qo a r<|b+(cy a b l).length;have e:=qo a r<|b+(cy a b l).length+1;rw[cy,eH];repeat' split
  all_goals (simp;try omega)
structure bV where
 name:YX
 a:List<|YX×Int
 rows:List YW
abbrev aI:=List bV
def bO(db:aI)(name:YX):Option Nat:=db.findIdx? (λt=>t.name==name)
def ak(db:aI)(i:Nat):bV:=db.getD i ⟨[],[],[]⟩
def cm(db:aI)(i:Nat)(rows:List YW):aI:=db.modify i λt=>⟨t.name,t.a,rows⟩
def dY(t:bV)(name:YX):Option Nat:=t.a.findIdx? (λc=>c.1==name)
def ax(src:YX)(t:bV):YY:=t.a.map λc=>⟨src,c.1,c.2⟩
def ig:List YX->List YX->Bool
 |_,[]=>false
 |ahead,x::xs=>ahead.contains x||ig (ahead++[x]) xs
def nr(l:List YX):Bool:=ig [] l
def aT(ab:YY)(t:aA)(want:Int):Option Nat:=match bD ab t with
 |.error e=>some e
 |.ok a=>if dt a want=true then none else some 3
def bE(ab:YY):Y6->Option Nat
 |[]=>none
 |t::ts=>match bD ab t with
  |.error e=>some e
  |.ok _=>bE ab ts
def eI:Y6->List Int->Option Nat
 |t::ts,w::ws=>match aT [] t w with
  |some e=>some e
  |none=>eI ts ws
 |_,_=>none
def bH(ab:YY)(row:YW):Y6->aV YW
 |[]=>.ok []
 |t::ts=>match bZ ab row t with
  |.error e=>.error e
  |.ok v=>match bH ab row ts with
   |.error e=>.error e
   |.ok vs=>.ok<|v::vs
def aU(ab:YY)(ts:Y6):List YW->aV (List YW)
 |[]=>.ok []
 |r::rs=>match bH ab r ts with
  |.error e=>.error e
  |.ok v=>match aU ab ts rs with
   |.error e=>.error e
   |.ok vs=>.ok<|v::vs
def aK:aA->aA
 |.nil=>fR 3 1 []
 |.node a b p l r=>.node a b p l r
def j9(ab:YY)(c:aA):List YW->aV (List YW×List YW)
 |[]=>.ok ([],[])
 |r::rs=>match bZ ab r c with
  |.error e=>.error e
  |.ok v=>match j9 ab c rs with
   |.error e=>.error e
   |.ok z=>.ok<|@ite _ (v=bh true) (j3 v<|bh true) (r::z.1,z.2) (z.1,r::z.2)
structure iW where
 rows:List YW
 count:Int
 err:Nat
def di(e:Nat):iW:=⟨[],0,e⟩
def dk(db:aI)(s:aX):aI×iW:=
 if ((bO db s.table).isSome||nr (s.c.map (·.name)))=true then (db,di 2)
 else if db.length=6 then (db,di 6)
 else (db++[⟨s.table,s.c.map λi=>(i.name,i.type),[]⟩],di 0)
def dI(db:aI)(s:aX):aI×iW:=match bO db s.table with
 |none=>(db,di 2)
 |some i=>
  if s.c.length≠(ak db i).a.length then (db,di 3)else
  match eI (s.c.map (·.aW)) ((ak db i).a.map (·.2))with
  |some e=>(db,di e)
  |none=>match bH [] [] (s.c.map (·.aW))with
   |.error e=>(db,di e)
   |.ok row=>if (ak db i).rows.length=25 then (db,di 6)else (cm db i<|(ak db i).rows++[row],⟨[],1,0⟩)
def dm(db:aI)(s:aX):aI×iW:=match bO db s.table with
 |none=>(db,di 2)
 |some i=>
  match aT (ax (ak db i).name<|ak db i) (aK s.d) 3 with
  |some e=>(db,di e)
  |none=>match j9 (ax (ak db i).name<|ak db i) (aK s.d) (ak db i).rows with
   |.error e=>(db,di e)
   |.ok z=>(cm db i z.2,⟨[],z.1.length,0⟩)
def b_(t:bV):Y4->Y3->aV Y4
 |acc,[]=>.ok acc
 |acc,it::aN=>match dY t it.name with
  |none=>.error 2
  |some k=>if acc.contains k=true then .error 2 else
   match aT (ax t.name t) it.aW ((t.a.getD k ([],0)).2)with
   |some e=>.error e
   |none=>b_ t (acc++[k]) aN
def gO(ab:YY)(row:YW):YW->Y4->Y6->aV YW
 |out,k::ks,t::ts=>match bZ ab row t with
  |.error e=>.error e
  |.ok v=>gO ab row (out.set k v) ks ts
 |out,_,_=>.ok out
def cV(ab:YY)(c:aA)(ks:Y4)(ts:Y6):List YW->aV (List YW×Nat)
 |[]=>.ok ([],0)
 |r::rs=>match bZ ab r c with
  |.error e=>.error e
  | .ok v=>@ite _ (v=bh true) (j3 v<|bh true) (match gO ab r r ks ts with
   |.error e=>.error e
   |.ok r'=>match cV ab c ks ts rs with
    |.error e=>.error e
    |.ok z=>.ok (r'::z.1,z.2+1))
   (match cV ab c ks ts rs with
    |.error e=>.error e
    |.ok z=>.ok (r::z.1,z.2))
def cS(db:aI)(s:aX):aI×iW:=match bO db s.table with
 |none=>(db,di 2)
 |some i=>
  match b_ (ak db i) [] s.c with
  |.error e=>(db,di e)
  |.ok ks=>match aT (ax (ak db i).name<|ak db i) (aK s.d) 3 with
   |some e=>(db,di e)
   |none=>match cV (ax (ak db i).name<|ak db i) (aK s.d) ks (s.c.map (·.aW)) (ak db i).rows with
    |.error e=>(db,di e)
    |.ok z=>(cm db i z.1,⟨[],z.2,0⟩)
def bq(db:aI):List YX->Y3->aV Y4
 |_,[]=>.ok []
 |called,it::aN=>match bO db it.name with
  |none=>.error 2
  |some i=>if called.contains it.aY=true then .error 2 else
   match bq db (called++[it.aY]) aN with
   |.error e=>.error e
   |.ok is=>.ok<|i::is
def aw(db:aI):Y4->Y3->YY
 |i::is,it::aN=>ax it.aY (ak db i)++aw db is aN
 |_,_=>[]
def pO(db:aI):YY->Y4->Y3->Option Nat
 |ab,i::is,it::aN=>match aT (ab++ax it.aY (ak db i)) it.aW 3 with
  |some e=>some e
  |none=>pO db (ab++ax it.aY (ak db i)) is aN
 |_,_,_=>none
def bd(ab:YY)(c:aA)(r:YW):List YW->aV (List YW)
 |[]=>.ok []
 |q::qs=>match bZ ab (r++q) c with
  |.error e=>.error e
  |.ok v=>match bd ab c r qs with
   |.error e=>.error e
   |.ok z=>.ok<|@ite _ (v=bh true) (j3 v<|bh true) ((r++q)::z) z
def aR(ab:YY)(c:aA)(left:Bool)(n:Nat)(qs:List YW):List YW->aV (List YW)
 |[]=>.ok []
 |r::rs=>match bd ab c r qs with
  |.error e=>.error e
  |.ok z=>match aR ab c left n qs rs with
   |.error e=>.error e
   |.ok y=>.ok<|(if (left&&z.isEmpty)=true then [r++List.replicate n aE]else z)++y
def mv(db:aI):YY->List YW->Y4->Y3->aV (List YW)
 |ab,rows,i::is,it::aN=>match aR (ab++ax it.aY (ak db i)) it.aW it.eC (ak db i).a.length (ak db i).rows rows with
  |.error e=>.error e
  |.ok z=>mv db (ab++ax it.aY (ak db i)) z is aN
 |_,rows,_,_=>.ok rows
def jq(ab:YY):Y6:=ab.map λc=>eB c.src c.name
def cq:YW->YW->List Bool->Int
 |a::az,b::bs,d::ds=>if dz a b=0 then cq az bs ds else if d=true then-dz a b else dz a b
 |_,_,_=>0
def fw{α:Type}(le:α->α->Bool)(x:α):List α->List α
 |[]=>[x]
 |y::ys=>if le x y=true then x::y::ys else y::fw le x ys
def bL{α:Type}(le:α->α->Bool):List α->List α
 |[]=>[]
 |x::xs=>fw le x<|bL le xs
def fA(rows dy:List YW)(ds:List Bool):List YW:=
 (bL (λa b=>decide<|cq a.1 b.1 ds<=0)<|dy.zip rows).map (·.2)
def cC:YW->YW->Bool
 |[],[]=>true
 |a::az,b::bs=>ai.same a b&&cC az bs
 |_,_=>false
def fq:List YW->List YW->List YW
 |_,[]=>[]
 |met,r::rs=>if met.any (cC r)=true then fq met rs else r::fq (met++[r]) rs
def j8(rows:List YW):List YW:=fq [] rows
def gQ(rows:List YW)(offset jy:Int):List YW:=
 if jy<0 then rows.drop offset.toNat else (rows.drop offset.toNat).take jy.toNat
def cZ(s:aX)(ab:YY):Y6:=if s.all=true then jq ab else s.c.map (·.aW)
def fb(ab:YY)(s:aX)(rows:List YW):aV<|List YW:=match j9 ab (aK s.d) rows with
 |.error e=>.error e
 |.ok z=>match aU ab (s.e.map (·.aW)) z.1 with
  |.error e=>.error e
  |.ok dy=>match aU ab (cZ s ab) (fA z.1 dy<|s.e.map (·.eC))with
   |.error e=>.error e
   |.ok out=>.ok<|gQ (if s.a=true then j8 out else out) s.offset s.g
def fi(db:aI)(s:aX):aI×iW:=match bq db [] s.b with
 |.error e=>(db,di e)
 |.ok is=>
  match pO db (aw db (is.take 1)<|s.b.take 1) (is.drop 1) (s.b.drop 1)with
  |some e=>(db,di e)
  |none=>match bE (aw db is s.b) (cZ s<|aw db is s.b)with
   |some e=>(db,di e)
   |none=>match aT (aw db is s.b) (aK s.d) 3 with
    |some e=>(db,di e)
    |none=>match bE (aw db is s.b) (s.e.map (·.aW))with
     |some e=>(db,di e)
     |none=>match mv db (aw db (is.take 1)<|s.b.take 1) (ak db<|is.headD 0).rows (is.drop 1) (s.b.drop 1)with
      |.error e=>(db,di e)
      |.ok rows=>match fb (aw db is s.b) s rows with
       |.error e=>(db,di e)
       |.ok out=>(db,⟨out,0,0⟩)
def d_(db:aI)(s:aX):aI×iW:=
 if s.aC=99 then dk db s else if s.aC=105 then dI db s else if s.aC=100 then dm db s else if s.aC=117 then cS db s else fi db s
def fx(db:aI)(text:YX):aI×iW:=match bp text with
 |none=>(db,di 1)
 |some s=>d_ db s
def dG(sep:YX):List YX->YX
 |[]=>[]
 |[x]=>x
 |x::y::r=>x++sep++dG sep (y::r)
def gH:Nat->Nat->YX->YX
 |0,_,acc=>acc
 |f+1,n,acc=>if n<10 then UInt8.ofNat (48+n)::acc else gH f (n / 10) (UInt8.ofNat (48+n % 10)::acc)
def gV(n:Nat):YX:=gH 20 n []
def fj(n:Int):YX:=if n=-9223372036854775808 then [45,57,50,50,51,51,55,50,48,51,54,56,53,52,55,55,53,56,48,55,32,45,32,49]else if n<0 then 45::gV (-n).toNat else gV n.toNat
def cT:YX->YX
 |[]=>[]
 |c::r=>if c=39 then 39::39::cT r else c::cT r
def aS(v:ai):YX:=
 if v.aC=1 then fj v.n else if v.aC=2 then 39::(cT v.s++[39])else if v.aC=3 then (if v.n=1 then [84,82,85,69]else [70,65,76,83,69])else [78,85,76,76]
def iy(t:Int):YX:=if t=1 then [73,78,84]else if t=2 then [84,69,88,84]else [66,79,79,76]
def eD(l:List YX):YX:=40::(dG [44,32] l++[41])
def bM(c:YX×Int):YX:=c.1++32::iy c.2
def dC(name:YX)(row:YW):YX:=
 [73,78,83,69,82,84,32,73,78,84,79,32]++name++[32,86,65,76,85,69,83,32]++eD (row.map aS)++[10]
def dH(t:bV):YX:=
 [67,82,69,65,84,69,32,84,65,66,76,69,32]++t.name++[32]++eD (t.a.map bM)++[10]++(t.rows.map<|dC t.name).flatten
def xG(db:aI):YX:=(db.map dH).flatten
abbrev Vu(k:Nat):ae:=⟨k,0,[]⟩
def Vs(n:Nat)(ts:YV)(x:aA):Prop:=∀m rest,n<=m->(af rest).k≠10->(iw m).single (ts++rest)=some (x,rest)/\(af<|ts++rest).k≠16/\(af<|ts++rest).k≠43
def cY(t:aA):Prop:=ib t/\gI t/\eH t<=600
def sS(t:aA):Prop:=t=.nil\/cY t
structure eL(s:aX):Prop where
 aC:s.aC=99\/s.aC=105\/s.aC=100\/s.aC=117\/s.aC=115
 len:s.c.length<=600
 j:ZE s.table
 create:s.aC=99->s.c.length<=5/\∀i∈s.c,(i.type=1\/i.type=2\/i.type=3)/\ZE i.name
 c:s.aC≠99->∀i∈s.c,cY i.aW
 d:sS s.d
 h:s.e.length<=600
 e:∀i∈s.e,cY i.aW
 b:s.aC=115->∃a r,s.b=a::r/\a.aW=.nil/\a.eC=false/\r.length<=2/\∀i∈r,cY i.aW
 g:s.g=-1\/(0<=s.g/\s.g<=9223372036854775807)
 offset:0<=s.offset/\s.offset<=9223372036854775807
 some_:s.aC=105\/s.aC=99->s.c≠[]
 others:∀i∈s.b,i.aY≠[]
def lK(q:ay->Prop)(p:h_):Prop:=∀ts x r,dr ts->ts.length<=600->p ts=some (x,r)->q x/\r.length<ts.length/\dr r
def n7{p:bg}(h:eK p)(e:dr D)(i:D.length<=600)(d:p D=some (R,E)):cY R/\E.length<D.length/\dr E:=by
 obtain⟨a,b,g,c⟩:=h D R E e d;have:1<=eH R:=by
  cases R with
  |nil=>exact absurd a id
  |node=>simp[eH]
 exact⟨⟨a,b,by omega⟩,by omega,c⟩
def xl{q:ay->Prop}{p:h_}(e:lK q p):∀(f:Nat)(a:Y3)(b:YV)(l:Y3)(r:YV),dr b->b.length<=600->(∀i∈a,q i)->dW p f a b=some (l,r)->(∀i∈l,q i)/\l.length+r.length<=a.length+b.length/\a.length<l.length/\r.length<=b.length/\dr r
 |0,_,_,_,_,_,_,_,h=>by simp[dW]at h
 |f+1,a,b,l,r,ht,hl,ha,h=>by
  unfold dW at h;cases hz:p b with
  |none=>rw[hz]at h;cases h
  |some z=>
   obtain⟨x,g⟩:=z;rw[hz]at h;obtain⟨t,w,d⟩:=e b x g ht hl hz;have c:∀i∈a++[x],q i:=by
    intro i hi;obtain hi|hi:=V1.1 hi
    .exact ha i hi
    simp at hi;subst hi;exact t
   simp only at h;split at h
   .have y:=bJ g;obtain⟨j,k,n,u,o⟩:=xl e f _ _ _ _ d.tail (by omega) c h;simp only[VH,V_]at k n;exact⟨j,by omega,by omega,by omega,o⟩
   simp at h;obtain⟨rfl,rfl⟩:=h;exact⟨c,by simp;omega,by simp,by omega,d⟩
def lZ{q:ay->Prop}{p:h_}(k:lK q p){l:Y3}(n:dr D)(j:D.length<=600)(h:bR p D=some (l,E)):(∀i∈l,q i)/\l.length+E.length<=D.length/\l≠[]/\E.length<=D.length/\dr E:=by obtain⟨c,a,b,d,g⟩:=xl k _ [] D l E n j (by simp) h;simp at a b;exact⟨c,a,by intro e;subst e;simp at b,d,g⟩
def sF:lK (λi=>cY i.aW) dc:=by
 intro e x r b a h;unfold dc at h;split at h
 .cases h
 rename_i y d c;simp at h;obtain⟨rfl,rfl⟩:=h;exact n7 ng b a c
def A7:lK (λi=>(i.type=1\/i.type=2\/i.type=3)/\ZE i.name) dL:=by
 intro d x r c e h;unfold dL at h;split at h
 .rename_i b;split at h
  .cases h
  rename_i t a;simp at h;obtain⟨rfl,rfl⟩:=h;refine⟨⟨?_,(c.c.2.2 b).1⟩,?_,c.tail.tail⟩
  .unfold gP at a;simp only;repeat' split at a
   all_goals first
    |(cases a;done)
    |(simp at a;omega)
  have:=eO b (by decide);have:=bJ d.tail;omega
 cases h
def Eb:lK (λi=>cY i.aW) fh:=by
 intro d x r e j h;have l:=bJ d;have n:=bJ d.tail;unfold fh at h;split at h
 .split at h
  .split at h
   .cases h
   rename_i y k g;simp at h;obtain⟨rfl,rfl⟩:=h;obtain⟨a,b,c⟩:=n7 ng e.tail.tail (by omega) g;exact⟨a,by omega,c⟩
  cases h
 cases h
def Ea:lK (λi=>cY i.aW) gd:=by
 intro l x r e d h;unfold gd at h;split at h
 .cases h
 rename_i y j g;obtain⟨a,b,c⟩:=n7 ng e d g;have k:=bJ j;split at h
 .simp at h;obtain⟨rfl,rfl⟩:=h;exact⟨a,by omega,c.tail⟩
 simp at h;obtain⟨rfl,rfl⟩:=h;exact⟨a,b,c⟩
def ru:lK (λi=>(i.aW=.nil/\i.eC=false)/\i.aY≠[]) cg:=by
 intro c x r a d h;have g:=bJ c.tail;have j:=bJ c.tail.tail;unfold cg at h;split at h
 .rename_i b;have e:=eO b (by decide);repeat' (split at h)
  all_goals first
   |(cases h;done)
   |(simp at h;obtain⟨rfl,rfl⟩:=h;exact⟨⟨⟨rfl,rfl⟩,by first|exact(a.c.2.2 b).2|exact(a.tail.tail.c.2.2<|by assumption).2⟩,by omega,by first|exact a.tail|exact a.tail.tail.tail⟩)
 cases h
def Ck(left:Bool):lK (λi=>cY i.aW/\i.aY≠[])<|dE left:=by
 intro o x r k j h;unfold dE at h;split at h
 .cases h
 rename_i n d hs;obtain⟨e,p,g⟩:=ru o n d k j hs;have t:=bJ d;split at h
 .split at h
  .cases h
  rename_i y q l;obtain⟨a,b,c⟩:=n7 ng g.tail (by omega) l;simp at h;obtain⟨rfl,rfl⟩:=h;exact⟨⟨a,e.2⟩,by omega,c⟩
 cases h
def uw:∀(f:Nat)(d:Y3)(e:YV)(l:Y3)(r:YV),dr e->e.length<=600->dJ f d e=some (l,r)->(∃m,l=d++m/\∀i∈m,cY i.aW/\i.aY≠[])/\r.length<=e.length/\dr r
 |0,_,_,_,_,_,_,h=>by simp[dJ]at h
 |f+1,d,e,l,r,ht,hl,h=>by
  have t:=bJ e;have w:=bJ e.tail;have key:∀(left:Bool) (u:YV),dr u->u.length<=e.length->(match dE left u with|none=>none|some (g,r)=>dJ f (d++[g]) r)=some (l,r)->(∃m,l=d++m/\∀i∈m,cY i.aW/\i.aY≠[])/\r.length<=e.length/\dr r:=by
   intro left u n o h;cases hz:dE left u with
   |none=>rw[hz]at h;cases h
   |some z=>
    obtain⟨g,p⟩:=z;rw[hz]at h;obtain⟨a,b,c⟩:=Ck left u g p n (by omega) hz;obtain⟨⟨m,rfl,k⟩,q,j⟩:=uw f _ _ _ _ c (by omega) h;refine⟨⟨g::m,by simp,?_⟩,by omega,j⟩;intro i hi;obtain rfl|hi:=V8.1 hi
    .exact a
    exact k i hi
  unfold dJ at h;split at h
  .split at h
   .exact key true _ ht.tail.tail (by omega) h
   cases h
  split at h
  .exact key false _ ht.tail (by omega) h
  simp at h;obtain⟨rfl,rfl⟩:=h;exact⟨⟨[],by simp,by simp⟩,VR _,ht⟩
def zS{l:Y3}(k:dr D)(g:D.length<=600)(h:dn D=some (l,E)):(∃a m,l=a::m/\a.aW=.nil/\a.eC=false/\a.aY≠[]/\∀i∈m,cY i.aW/\i.aY≠[])/\E.length<=D.length/\dr E:=by
 unfold dn at h;split at h
 .cases h
 rename_i c n hs;obtain⟨b,o,d⟩:=ru D c n k g hs;obtain⟨⟨m,rfl,j⟩,p,e⟩:=uw _ _ _ _ _ d (by omega) h;exact⟨⟨c,m,by simp,b.1.1,b.1.2,b.2,j⟩,by omega,e⟩
def pA(d:dr D)(e:D.length<=600)(h:bX D=some (R,E)):sS R/\E.length<=D.length/\dr E:=by
 have g:=bJ D;unfold bX at h;split at h
 .obtain⟨a,b,c⟩:=n7 ng d.tail (by omega) h;exact⟨.inr a,by omega,c⟩
 simp at h;obtain⟨rfl,rfl⟩:=h;exact⟨.inl rfl,VR _,d⟩
def Co{z:Int×Int}(b:dr D)(h:dR D=some (z,E)):(z.1=-1\/(0<=z.1/\z.1<=9223372036854775807))/\(0<=z.2/\z.2<=9223372036854775807):=by
 unfold dR at h;split at h
 .split at h
  .rename_i c;have a:=b.tail.c.1 c;split at h
   .split at h
    .rename_i d;simp at h;obtain⟨rfl,rfl⟩:=h;exact⟨.inr a,b.tail.tail.tail.c.1 d⟩
    cases h
   simp at h;obtain⟨rfl,rfl⟩:=h;exact⟨.inr a,by simp⟩
  cases h
 simp at h;obtain⟨rfl,rfl⟩:=h;exact⟨.inl rfl,by simp⟩
def Ed{l:Y3}(g:dr D)(j:D.length<=600)(h:eT D=some (l,E)):(∀i∈l,cY i.aW)/\l.length<=600/\dr E:=by
 have k:=bJ D;have n:=bJ D.tail;unfold eT at h;split at h
 .split at h
  .obtain⟨a,b,c,d,e⟩:=lZ Ea g.tail.tail (by omega) h;exact⟨a,by omega,e⟩
  cases h
 simp at h;obtain⟨rfl,rfl⟩:=h;exact⟨by simp,by simp,g⟩
def Cw{s:aX}(A:dr D)(G:D.length<=600)(h:ck D=some (s,E)):eL s:=by
 have j:dr (gF D)/\(gF D).length<=600:=by
  have a:=bJ D;unfold gF;split
  .exact⟨A.tail,by omega⟩
  exact⟨A,G⟩
 cases hz:eZ (gF D)with
 |none=>rw[uI hz]at h;cases h
 |some z=>
  obtain⟨⟨all,aD⟩,k⟩:=z;rw[po hz]at h;have hi:(∀i∈aD,cY i.aW)/\aD.length<=600/\k.length<=600/\dr k:=by
   obtain⟨g,n⟩:=j;unfold eZ at hz;split at hz
   .simp at hz;obtain⟨⟨_,rfl⟩,rfl⟩:=hz;have:=bJ<|gF D;exact⟨by simp,by simp,by omega,g.tail⟩
   split at hz
   .cases hz
   rename_i l t r;simp at hz;obtain⟨⟨_,rfl⟩,rfl⟩:=hz;obtain⟨a,b,c,d,e⟩:=lZ sF g n r;exact⟨a,by omega,by omega,e⟩
  obtain⟨o,p,F,q⟩:=hi;unfold kA at h;split at h
  .have N:=bJ k;cases hs:dn k.tail with
   |none=>rw[hs]at h;cases h
   |some y=>
    obtain⟨bl,J⟩:=y;obtain⟨⟨a,m,rfl,c,d,g,x⟩,H,r⟩:=zS q.tail (by omega) hs;rw[hs]at h;simp only[mC]at h;split at h
    .cases h
    rename_i b;unfold kR at h;cases hw:bX J with
    |none=>rw[hw]at h;cases h
    |some y2=>
     obtain⟨O,K⟩:=y2;obtain⟨w,I,t⟩:=pA r (by omega) hw;rw[hw]at h;simp only[nO]at h;cases hk:eT K with
     |none=>rw[hk]at h;cases h
     |some y3=>
      obtain⟨el,L⟩:=y3;obtain⟨l,n,u⟩:=Ed t (by omega) hk;rw[hk]at h;simp only[mE]at h;unfold ik at h;cases hlm:dR L with
      |none=>rw[hlm]at h;cases h
      |some y4=>
       obtain⟨P,M⟩:=y4;obtain⟨B,C⟩:=Co u hlm;rw[hlm]at h;simp at h;obtain⟨rfl,rfl⟩:=h;refine⟨by simp,p,by simp[ZE],by simp,λ_=>o,w,n,l,λ_=>⟨a,m,rfl,c,d,by simp at b;omega,λi hi=>(x i hi).1⟩,B,C,by simp,λi hi=>(V8.1 hi).elim (λe=>e▸g) λh=>(x i h).2⟩
  cases h
def oX{b:Y3}(l:a=99\/a=105\/a=100\/a=117)(c:b.length<=600)(d:ZE X)(e:a=99->b.length<=5/\∀i∈b,(i.type=1\/i.type=2\/i.type=3)/\ZE i.name)(g:a≠99->∀i∈b,cY i.aW)(j:sS R)(k:a=105\/a=99->b≠[]):eL<|eM a X b R:=by unfold eM;refine⟨by obtain h|h|h|h:=l<;>simp[h],c,d,e,g,j,by simp,by simp,λh=>?_,by simp,by simp,k,by simp⟩;simp only at h;omega
def sG{q:ay->Prop}{p:h_}(g:lK q p){l:Y3}(j:dr D)(n:D.length<=600)(h:fK p D=some (l,E)):(∀i∈l,q i)/\l.length<=600/\l≠[]:=by
 have t:=bJ D;unfold fK at h;split at h
 .split at h
  .cases h
  rename_i o r k;obtain⟨a,b,c,d,e⟩:=lZ g j.tail (by omega) k;split at h
  .simp at h;obtain⟨rfl,rfl⟩:=h;exact⟨a,by omega,c⟩
  cases h
 cases h
def xM{s:aX}(g:dr D)(p:D.length<=600)(h:aJ D=some (s,E)):eL s:=by
 have t:=bJ D;have u:=bJ D.tail;have w:=bJ D.tail.tail;have x:=bJ D.tail.tail.tail;unfold aJ at h;split at h
 .unfold dB at h;split at h
  .split at h
   .rename_i d;split at h
    .cases h
    rename_i l k i;obtain⟨a,b,c⟩:=sG A7 g.tail.tail.tail (by omega) i;split at h
    .cases h
    rename_i j;simp at h;obtain⟨rfl,rfl⟩:=h;exact oX (.inl rfl) b (g.tail.tail.c.2.2 d).1 (λ_=>⟨by omega,a⟩) (λh=>absurd rfl h) (.inl rfl) λ_=>c
   cases h
  cases h
 split at h
 .unfold dP at h;split at h
  .split at h
   .rename_i d;split at h
    .split at h
     .cases h
     rename_i l j i;have k:=bJ D.tail.tail.tail.tail;obtain⟨a,b,c⟩:=sG sF g.tail.tail.tail.tail (by omega) i;simp at h;obtain⟨rfl,rfl⟩:=h;exact oX (.inr<|.inl rfl) b (g.tail.tail.c.2.2 d).1 (λh=>by simp at h) (λ_=>a) (.inl rfl) λ_=>c
    cases h
   cases h
  cases h
 split at h
 .unfold ez at h;split at h
  .split at h
   .rename_i d;split at h
    .cases h
    rename_i k j i;obtain⟨a,b,c⟩:=pA g.tail.tail.tail (by omega) i;simp at h;obtain⟨rfl,rfl⟩:=h;exact oX (.inr<|.inr<|.inl rfl) (by simp) (g.tail.tail.c.2.2 d).1 (λh=>by simp at h) (λ_=>by simp) a λh=>by omega
   cases h
  cases h
 split at h
 .unfold eA at h;split at h
  .rename_i j;split at h
   .split at h
    .cases h
    rename_i l q n;obtain⟨a,b,c,d,e⟩:=lZ Eb g.tail.tail.tail (by omega) n;split at h
    .cases h
    rename_i y r k;obtain⟨i,o,c2⟩:=pA e (by omega) k;simp at h;obtain⟨rfl,rfl⟩:=h;exact oX (.inr<|.inr<|.inr rfl) (by omega) (g.tail.c.2.2 j).1 (λh=>by simp at h) (λ_=>a) i λh=>by omega
   cases h
  cases h
 split at h
 .exact Cw g.tail (by omega) h
 cases h
def ix{s:aX}(h:bp X=some s):eL s:=by
 unfold bp at h;split at h
 .cases h
 rename_i b;have a:=oI _ X<|WC _;cases hz:aJ (de X)with
 |none=>rw[hz]at h;cases h
 |some z=>
  obtain⟨c,r⟩:=z;rw[hz]at h;simp only[kK]at h;split at h
  .simp at h;subst h;exact xM (vM _ X<|WC _) (by omega) hz
  cases h
structure jC{α:Type}(le:α->α->Bool):Prop where
 total:∀a b,le a b=true\/le b a=true
 trans:∀a b c,le a b=true->le b c=true->le a c=true
def jC.refl{α:Type}{b:α->α->Bool}(h:jC b)(a:α):b a a=true:=(h.total a a).elim id id
def jC.not{α:Type}{c:α->α->Bool}(h:jC c){a b:α}(d:c a b=false):c b a=true:=(h.total a b).elim (λe=>by rw[d]at e;cases e) id
def eS{α:Type}(le:α->α->Bool):List α->List α->List α
 |[],ys=>ys
 |x::xs,ys=>go x xs (eS le xs) ys
where
 go (x:α) (xs:List α) (rest:List α->List α):List α->List α
  |[]=>x::xs
  |y::ys=>if le x y=true then x::rest (y::ys)else y::go x xs rest ys
def hJ{α:Type}(b:α->α->Bool)(a:List α):eS b [] a=a:=by rw[eS]
def iR{α:Type}(b:α->α->Bool)(a:List α):eS b a []=a:=by cases a<;>simp[eS,eS.go]
def eW{α:Type}(a:α->α->Bool)(x y:α)(b c:List α):eS a (x::b) (y::c)=if a x y=true then x::eS a b (y::c)else y::eS a (x::b) c:=by
 rw[eS,eS.go];split
 .rfl
 rw[eS]
def oh{α:Type}{c:α->α->Bool}(h:jC c)(x:α):∀(d i:List α),fw c x (eS c d i)=eS c (fw c x d) i
 |[],[]=>by simp[fw,eS,eS.go]
 |[],b::i=>by
  rw[hJ,fw,fw,eW,hJ];split
  .rfl
  have:=oh h x [] i;rw[hJ,fw]at this;rw[this]
 |a::d,[]=>by rw[iR,iR]
 |a::d,b::i=>by
  by_cases e:c x a=true
  .have k:fw c x (a::d)=x::a::d:=by rw[fw,VG e]
   rw[k];by_cases g:c x b=true
   .rw[eW c x b (a::d) i,VG g,eW c a b d i];split
    .rw[fw,VG e]
    rw[fw,VG g]
   have j:¬c a b=true:=λj=>g<|h.trans _ _ _ e j;rw[eW,VF j,fw,VF g,eW (x:=x),VF g,oh h x (a::d) i,k]
  have k:fw c x (a::d)=a::fw c x d:=by rw[fw,VF e]
  rw[k];by_cases g:c a b=true
  .rw[eW,VG g,fw,VF e,oh h x d<|b::i,eW,VG g]
  have j:¬c x b=true:=λj=>g<|h.trans _ _ _ (h.not<|Xm.2 e) j;rw[eW,VF g,fw,VF j,oh h x (a::d) i,k,eW,VF g]
def kX{α:Type}{a:α->α->Bool}(h:jC a):∀(c b:List α),bL a (c++b)=eS a (bL a c) (bL a b)
 |[],b=>by rw[Wz,bL,hJ]
 |x::c,b=>by rw[WU,bL,kX h c b,oh h,bL]
def jH{α:Type}{le:α->α->Bool}:∀(c d a b:List α),(∀x∈c,∀y∈b,le x y=true)->(∀y∈d,∀x∈a,le x y=false)->eS le (c++a) (d++b)=eS le c d++eS le a b
 |[],[],a,b,_,_=>by rw[hJ];rfl
 |[],y::d,a,b,h1,h2=>by
  have g:=jH [] d a b h1 λh e=>h2 h (by simp[e]);rw[hJ]at g ⊢;cases a with
  |nil=>simp[hJ]
  |cons x a=>
   rw[Wz,WU,eW,VF<|by simp[h2 y (by simp) x<|by simp]];rw[Wz]at g;rw[g];rfl
 |x::c,[],a,b,h1,h2=>by
  have g:=jH c [] a b (λh e=>h1 h<|by simp[e]) h2;rw[iR]at g ⊢;rw[Wz]at g ⊢;cases b with
  |nil=>simp[iR]
  |cons y b=>
   rw[WU,eW,VG<|h1 x (by simp) y<|by simp,g];rfl
 |x::c,y::d,a,b,h1,h2=>by
  rw[WU,WU,eW,eW];split
  .have g:=jH c (y::d) a b (λh e=>h1 h<|by simp[e]) h2;rw[<-WU,g];rfl
  have g:=jH (x::c) d a b h1 λh e=>h2 h (by simp[e]);rw[<-WU,g];rfl
def vp{α:Type}{a:α->α->Bool}{x y:α}:∀{l:List α},y∈fw a x l->y=x\/y∈l
 |[],h=>by simp[fw]at h;exact .inl h
 |z::l,h=>by
  unfold fw at h;split at h
  .simpa using h
  obtain h|h:=V8.1 h
  .right;simp[h]
  obtain h|h:=vp h
  .exact .inl h
  right;simp[h]
def A_{α:Type}(a:α->α->Bool)(x:α):∀(l:List α),(fw a x l).length=l.length+1
 |[]=>rfl
 |z::l=>by
  unfold fw;split
  .simp
  simp[A_ a x l]
def iq{α:Type}(a:α->α->Bool):∀(l:List α),(bL a l).length=l.length
 |[]=>rfl
 |x::l=>by rw[bL,A_,iq a l];rfl
def iO{α:Type}{a:α->α->Bool}{y:α}:∀{l:List α},y∈bL a l->y∈l
 |[],h=>by simp[bL]at h
 |x::l,h=>by
  rw[bL]at h;obtain h|h:=vp h
  .simp[h]
  have:=iO h;simp[this]
def um{α:Type}{d:α->α->Bool}(h:jC d)(x:α):∀{l:List α},l.Pairwise (λa b=>d a b=true)->(fw d x l).Pairwise (λa b=>d a b=true)
 |[],_=>by simp[fw]
 |z::l,hp=>by
  have g:=WZ.1 hp;unfold fw;split
  .rename_i c;refine WZ.2 ⟨λb e=>?_,hp⟩;obtain rfl|e:=V8.1 e
   .exact c
   exact h.trans _ _ _ c<|g.1 b e
  rename_i e;refine WZ.2 ⟨λb c=>?_,um h x g.2⟩;obtain rfl|c:=vp c
  .exact h.not<|Xm.2 e
  exact g.1 b c
def jO{α:Type}{c:α->α->Bool}(h:jC c):∀(l:List α),(bL c l).Pairwise (λa b=>c a b=true)
 |[]=>List.Pairwise.nil
 |x::l=>by rw[bL];exact um h x<|jO h l
def y_{α:Type}{c:α->α->Bool}{p q:List α}{x:α}(e:∀y∈p,c y x=true)(g:∀y∈q,c y x=false):eS c (p++q) [x]=p++x::q:=by
 have:=jH p [] q [x] (λa d y b=>by simp at b;subst b;exact e a d) (λy b=>by cases b) (le:=c);rw[Wz,iR]at this;rw[this]
 congr 1
 cases q with
 |nil=>rw[hJ]
 |cons y q=>rw[eW,VF<|by simp[g y<|by simp],iR]
def Ej{α:Type}{c:α->α->Bool}{p q:List α}{x:α}(d:∀y∈p,c x y=false)(e:∀y∈q,c x y=true):eS c [x] (p++q)=p++x::q:=by
 have:=jH [] p [x] q (λa b=>by cases b) (λy g a b=>by simp at b;subst b;exact d y g) (le:=c);rw[Wz,hJ]at this;rw[this]
 congr 1
 cases q with
 |nil=>rw[iR]
 |cons y q=>rw[eW,VG<|e y<|by simp,hJ]
def mA{α:Type}(c:α->α->Bool):∀(a b:List α),(eS c a b).length=a.length+b.length
 |[],b=>by rw[hJ];simp
 |x::a,[]=>by rw[iR];simp
 |x::a,y::b=>by
  rw[eW];split
  .have:=mA c a<|y::b;simp at this ⊢;omega
  have:=mA c (x::a) b;simp at this ⊢;omega
structure uW{α:Type}(c:α->α->Int):Prop where
 e:∀a b,c b a=- c a b
 trans:∀a b d,c a b<=0->c b d<=0->c a d<=0
def uW.ord{α:Type}{c:α->α->Int}(h:uW c):jC (λa b=>decide<|c a b<=0):=
 ⟨λa b=>by have:=h.e a b;simp;omega,λa b d e g=>by simp at*;exact h.trans a b d e g⟩
def uW.l{α:Type}{c:α->α->Int}(h:uW c){a b:α}(d:α)(e:c a b=0):(c a d<=0↔c b d<=0)/\(c d a<=0↔c d b<=0):=by have g:=h.e a b;exact⟨⟨λk=>h.trans b a d (by omega) k,λk=>h.trans a b d (by omega) k⟩,⟨λk=>h.trans d a b k<|by omega,λk=>h.trans d b a k<|by omega⟩⟩
def vN:uW Lib.compareInt:=by
 refine⟨λa b=>?_,λa b d c e=>?_⟩
 .unfold Lib.compareInt;repeat' split;all_goals omega
 unfold Lib.compareInt at*;repeat' (split at c)
 all_goals
  repeat' (split at e)
  all_goals
   repeat' split
   all_goals omega
def nf{a b:UInt8}:a<b↔a.toNat<b.toNat:=Iff.rfl
def tV:∀(a b:YX),Lib.compareBytes b a=- Lib.compareBytes a b
 |[],[]=>rfl
 |[],_::_=>rfl
 |_::_,[]=>rfl
 |x::a,y::b=>by
  unfold Lib.compareBytes;simp only[nf];have c:=tV a b;repeat' split
  all_goals omega
def rZ:∀(a b d:YX),Lib.compareBytes a b<=0->Lib.compareBytes b d<=0->Lib.compareBytes a d<=0
 |[],_,[],_,_=>by simp[Lib.compareBytes]
 |[],_,_::_,_,_=>by simp[Lib.compareBytes]
 |_::_,[],_,h,_=>by simp[Lib.compareBytes]at h
 |_::_,_::_,[],_,h=>by simp[Lib.compareBytes]at h
 |x::a,y::b,z::d,h1,h2=>by
  unfold Lib.compareBytes at*;simp only[nf]at*;repeat' (split at h1)
  all_goals
   repeat' (split at h2)
   all_goals
    repeat' split
    all_goals first
     |omega
     |exact(rZ a b d) h1 h2
def iD(a b:ai):Int:=if a.aC=b.aC then (if a.aC=0 then 0 else if a.aC=2 then Lib.compareBytes a.s b.s else Lib.compareInt a.n b.n)else Lib.compareInt a.aC b.aC
def DX:Lib.compareInt a M=0↔a=M:=by unfold Lib.compareInt;repeat' split;all_goals omega
def p_:Lib.compareInt a M<=0↔a<=M:=by unfold Lib.compareInt;repeat' split;all_goals omega
def iV:uW iD:=by
 refine⟨λa b=>?_,λa b d i g=>?_⟩
 .unfold iD;by_cases h:a.aC=b.aC
  .rw[VG h,VG h.symm,<-h];split
   .rfl
   split
   .exact tV _ _
   exact vN.e _ _
  rw[VF h,VF λe=>h e.symm];exact vN.e _ _
 unfold iD at*;by_cases c:a.aC=b.aC
 .rw[VG c]at i;by_cases h:b.aC=d.aC
  .rw[VG h]at g;rw[VG<|c.trans h];rw[<-c]at g;split
   .exact YF 0
   rename_i k;rw[VF k]at i g;split
   .rename_i j;rw[VG j]at i g;exact rZ _ _ _ i g
   rename_i j;rw[VF j]at i g;exact vN.trans _ _ _ i g
  rw[VF h]at g;rw[VF<|c▸h,c];exact g
 rw[VF c,p_]at i;by_cases h:b.aC=d.aC
 .rw[VF (by rw[<-h];exact c),<-h,p_];exact i
 rw[VF h,p_]at g;rw[VF<|by omega,p_];omega
def cX(ty:Int)(v:ai):Prop:=v.aC=0\/v.aC=ty
def uF{a b:ai}(d:cX M a)(e:cX M b):dz a b=iD a b:=by
 unfold dz iD ai.c;by_cases h:a.aC=b.aC
 .rw[VG h];by_cases c:a.aC=0
  .rw[VG c,VG<|by simp[c],DX.2 h]
  rw[VF c,VF<|by simp[c,<-h]]
 rw[VF h];rw[VG (by unfold cX at*;simp;omega)]
def lQ:List Bool->YW->YW->Int
 |[],_,_=>0
 |d::ds,az,bs=>if iD (az.headD aE) (bs.headD aE)=0 then lQ ds az.tail bs.tail else if d=true then-iD (az.headD aE) (bs.headD aE)else iD (az.headD aE) (bs.headD aE)
def nd:∀c,uW (lQ c)
 |[]=>⟨λ_ _=>rfl,λ_ _ _ _ _=>YF 0⟩
 |d::c=>by
  have k:=nd c;refine⟨λa b=>?_,λa b e i j=>?_⟩
  .unfold lQ;have:=iV.e (a.headD aE)<|b.headD aE;have:=k.e a.tail b.tail;repeat' split
   all_goals omega
  unfold lQ at*;have u:=W0 λh:_/\_=>iV.trans (a.headD aE) (b.headD aE) (e.headD aE) h.1 h.2;have w:=W0 λh:_/\_=>iV.trans (e.headD aE) (b.headD aE) (a.headD aE) h.1 h.2;have n:=iV.e (a.headD aE)<|b.headD aE;have o:=iV.e (b.headD aE)<|e.headD aE;have t:=iV.e (a.headD aE)<|e.headD aE;have l:=W0 λh:_/\_=>k.trans a.tail b.tail e.tail h.1 h.2;have D:=W0 λg:iD (a.headD aE) (b.headD aE)=0=>iV.l (e.headD aE) g;have E:=W0 λg:iD (b.headD aE) (e.headD aE)=0=>iV.l (a.headD aE) g;have F:=W0 λg:iD (a.headD aE) (e.headD aE)=0=>iV.l (b.headD aE) g;generalize iD (a.headD aE) (b.headD aE)=x at*;generalize iD (b.headD aE) (a.headD aE)=A at*;generalize iD (b.headD aE) (e.headD aE)=y at*;generalize iD (e.headD aE) (b.headD aE)=B at*;generalize iD (a.headD aE) (e.headD aE)=z at*;generalize iD (e.headD aE) (a.headD aE)=C at*;generalize lQ c a.tail b.tail=p at*;generalize lQ c b.tail e.tail=q at*;generalize lQ c a.tail e.tail=r at*;split at i<;>split at j<;>split<;>(try split at i)<;>(try split at j)<;>(try split)<;>first|contradiction|omega
def hZ(k9:List Int)(r:YW):Prop:=r.length=k9.length/\∀(i:Nat)(v:ai)(ty:Int),r[i]?=some v->k9[i]?=some ty->cX ty v
def mO:∀(k9:List Int)(c:List Bool)(a b:YW),c.length=k9.length->hZ k9 a->hZ k9 b->cq a b c=lQ c a b
 |[],[],a,b,_,_,_=>by cases a<;>cases b<;>rfl
 |[],d::c,_,_,h,_,_=>by simp at h
 |ty::k9,[],_,_,h,_,_=>by simp at h
 |ty::k9,d::c,a,b,h,ha,hb=>by
  cases a with
  |nil=>exact absurd ha.1<|by simp
  |cons x a=>
   cases b with
   |nil=>exact absurd hb.1<|by simp
   |cons y b=>
    have j:hZ k9 a:=⟨by simpa using ha.1,λi v t e g=>ha.2 (i+1) v t (by simpa using e)<|by simpa using g⟩;have k:hZ k9 b:=⟨by simpa using hb.1,λi v t e g=>hb.2 (i+1) v t (by simpa using e)<|by simpa using g⟩;unfold cq lQ;simp only[List.headD_cons,List.tail_cons];rw[uF (ha.2 0 x ty rfl rfl)<|hb.2 0 y ty rfl rfl,mO k9 c a b (by simpa using h) j k];rfl
def dv(v:ai):Prop:=(v.aC=0/\v.n=0/\v.s=[])\/(v.aC=1/\v.s=[]/\-9223372036854775808<=v.n/\v.n<=9223372036854775807)\/(v.aC=2/\v.n=0/\v.s.length<=40)\/(v.aC=3/\(v.n=0\/v.n=1)/\v.s=[])
def dv.range{v:ai}(h:dv v): -9223372036854775808<=v.n/\v.n<=9223372036854775807:=by obtain h|h|h|h:=h<;>omega
def dv.aC{v:ai}(h:dv v):0<=v.aC/\v.aC<=3:=by obtain h|h|h|h:=h<;>omega
def pN:dv aE:=.inl ⟨rfl,rfl,rfl⟩
def yq(b:Bool):dv<|bh b:=by cases b<;>exact .inr (.inr<|.inr ⟨rfl,by simp[bh],rfl⟩)
def qC{v:ai}(h:fe a=.ok v):dv v/\v.aC=1:=by
 unfold fe at h;split at h
 .cases h;exact⟨.inr<|.inl ⟨rfl,rfl,by assumption⟩,rfl⟩
 cases h
def xp{v:ai}(e: -9223372036854775808<=a/\a<=9223372036854775807)(h:dd n a M=.ok v):dv v/\v.aC=1:=by
 unfold dd at h;repeat' (split at h)
 all_goals first
  |(cases h;done)
  |exact qC h
  | (cases h
     refine⟨.inr<|.inl ⟨rfl,rfl,?_⟩,rfl⟩;show -9223372036854775808<=Int.tmod a M/\Int.tmod a M<=9223372036854775807;have d:(Int.tmod a M).natAbs<=a.natAbs:=by rw[YA];exact Nat.mod_le _ _
     have b:0<=a->0<=Int.tmod a M:=λh=>Int.tmod_nonneg M h;have c:a<=0->Int.tmod a M<=0:=λh=>by have:=Int.tmod_nonneg (a:=-a) M (by omega);rw[Int.neg_tmod]at this;omega
     obtain h|h:=Int.le_total 0 a
     .have:=b h;omega
     .have:=c h;omega)
def Dl{v u:ai}(a:dv v)(h:il n v=.ok u):dv u:=by
 unfold il at h;split at h
 .unfold mB at h;split at h
  .cases h;exact a
  exact(qC h).1
 split at h
 .cases h;unfold oq;split
  .exact a
  exact yq _
 cases h;exact yq _
def Dm{l r u:ai}(a:dv l)(b:dv r)(h:fH n l r=.ok u):dv u:=by
 unfold fH at h;split at h
 .cases h;unfold fM;split<;>assumption
 split at h
 .cases h;exact pN
 split at h
 .exact(xp a.range h).1
 cases h;exact yq _
def gY(row:YW):Prop:=∀v∈row,dv v
def A6{a:YW}(h:gY a)(i:Nat):dv<|a.getD i aE:=by
 rw[Wm];cases hi:a[i]? with
 |none=>exact pN
 |some v=>exact h v<|VY hi
def jN(g:YY){d:YW}(c:gY d):∀{t:aA}{v:ai},gI t->bZ g d t=.ok v->dv v
 |.nil,v,_,h=>by cases h;exact pN
 |.node a1 a2 p l r,v,hk,h=>by
  obtain⟨j,kl,k⟩:=hk;unfold bZ at h;split at h
  .rename_i a;cases h;have:=j a;unfold dv mQ;simp only;obtain h|h|h|h:=this
   .exact .inl h
   .exact .inr<|.inl ⟨h.1,h.2.1,by omega,h.2.2.2⟩
   .exact .inr<|.inr<|.inl h
   exact .inr<|.inr<|.inr h
  split at h
  .cases h;exact A6 c _
  cases hl:bZ g d l with
  |error e=>rw[hl]at h;cases h
  |ok a=>
   have i:=jN g c kl hl;rw[hl]at h;simp only at h;split at h
   .exact Dl i h
   split at h
   .cases h;exact i
   cases hr:bZ g d r with
   |error e=>rw[hr]at h;cases h
   |ok b=>
    rw[hr]at h;simp only at h;exact Dm i (jN g c k hr) h
def BG(ab:YY)(row:YW):Prop:=∀(i:Nat),cX (ft ab i)<|row.getD i aE
def yi{c:Int}(h:fm n a M=.ok c):c=eR n/\dt a (cD n)=true/\dt M (cD n)=true/\dt a M=true:=by
 unfold fm at h;split at h
 .rename_i b;cases h;simp at b;exact⟨rfl,b.1.1,b.1.2,b.2⟩
 cases h
def Fa{v u:ai}(d:2<=n)(g:n<=5)(j:cX a v)(i:dt a (cD n)=true)(h:il n v=.ok u):cX (eR n) u:=by
 unfold il at h;split at h
 .rename_i e;subst e;unfold mB at h;split at h
  .rename_i b;cases h;left;simpa[ai.c]using b
  right;exact(qC h).2
 have b:eR n=3:=by rw[eR,VF<|by omega]
 rw[b];split at h
 .cases h;unfold oq;split
  .rename_i c;left;simpa[ai.c]using c
  right;rfl
 cases h;right;rfl
def Fb{l r u:ai}(k:6<=n)(e:n<=18)(i:dv l)(o:dv r)(p:cX a l)(q:cX M r)(b:dt a (cD n)=true)(c:dt M (cD n)=true)(h:fH n l r=.ok u):cX (eR n) u:=by
 unfold fH at h;split at h
 .rename_i d;cases h;have g:eR n=3:=by rw[eR,VF<|by omega]
  have j:cD n=3:=by rw[cD,VG<|by omega]
  rw[g];rw[j]at b c;simp[dt]at b c;unfold fM;split
  .unfold cX at*;omega
  unfold cX at*;omega
 split at h
 .cases h;left;rfl
 split at h
 .have d:eR n=1:=by rw[eR,VG<|by omega]
  rw[d];right;exact(xp i.range h).2
 have d:eR n=3:=by rw[eR,VF<|by omega]
 rw[d];cases h;right;rfl
def jG{g:YY}{d:YW}(c:gY d)(j:BG g d):∀{t:aA}{v:ai}{q:Int},ib t->gI t->bD g t=.ok q->bZ g d t=.ok v->cX q v
 |.nil,_,_,hw,_,_,_=>absurd hw id
 |.node a1 a2 p l r,v,q,hw,hk,ht,h=>by
  obtain⟨k,_,o,n⟩:=hw;obtain⟨_,kl,w⟩:=hk;unfold bZ at h;unfold bD at ht;split at h
  .rename_i a;rw[VG a]at ht;cases h;cases ht;right;rfl
  rename_i B;rw[VF B]at ht;split at h
  .rename_i a;rw[VG a]at ht;cases h;unfold mq;cases hc:eE g p.src p.name with
   |none=>rw[hc]at ht;cases ht
   |some i=>rw[hc]at ht;cases ht;exact j i
  rename_i C;rw[VF C]at ht;cases tl:bD g l with
  |error e=>rw[tl]at ht;cases ht
  |ok a=>
   rw[tl]at ht;simp only at ht;cases hl:bZ g d l with
   |error e=>rw[hl]at h;cases h
   |ok x=>
    rw[hl]at h;simp only at h;have u:=jG c j (n<|by omega) kl tl hl;split at h
    .rename_i b;rw[VG b]at ht;obtain⟨rfl,i,_,_⟩:=yi ht;exact Fa (by omega) b u i h
    rename_i D;rw[VF D]at ht;cases tr:bD g r with
    |error e=>rw[tr]at ht;cases ht
    |ok b=>
     rw[tr]at ht;simp only at ht;obtain⟨rfl,z,A,E⟩:=yi ht;split at h
     .rename_i i;cases h;have y:eR p.op=3:=by rw[eR,VF<|by omega]
      rw[y,i.2];right;rfl
     cases hr:bZ g d r with
     |error e=>rw[hr]at h;cases h
     |ok y=>
      rw[hr]at h;simp only at h;exact Fb (by omega) k (jN g c kl hl) (jN g c w hr) u (jG c j (o<|by omega) w tr hr) z A h
def aZ(ab:YY)(row:YW):Prop:=row.length=ab.length/\gY row/\BG ab row
structure ij(t:bV):Prop where
 b:t.a.length<=5
 pos:1<=t.a.length
 a:∀c∈t.a,(c.2=1\/c.2=2\/c.2=3)/\ZE c.1
 name:ZE t.name
 d:t.rows.length<=25
 rows:∀r∈t.rows,aZ (ax [] t) r
 nodup:(t.a.map (·.1)).Nodup
def ec(db:aI):Prop:=db.length<=6/\∀t∈db,ij t
def rF(a:YX)(t:bV)(i:Nat):ft (ax a t) i=ft (ax [] t) i:=by unfold ft ax;simp only[VO];cases t.a[i]?<;>rfl
def uS(a:YX)(t:bV)(i:Nat):ft (ax a t) i=(t.a.getD i ([],0)).2:=by unfold ft ax;simp only[VO,List.getD];cases t.a[i]?<;>rfl
def cH(a:YX)(t:bV):(ax a t).length=t.a.length:=by simp[ax]
def aZ.src{src:YX}{t:bV}{r:YW}(h:aZ (ax [] t) r):aZ (ax src t) r:=
 ⟨by rw[h.1,cH,cH],h.2.1,λi=>by rw[rF];exact h.2.2 i⟩
def aZ.c{t:bV}{r:YW}(h:aZ (ax X t) r):aZ (ax [] t) r:=
 ⟨by rw[h.1,cH,cH],h.2.1,λi=>by rw[<-rF X];exact h.2.2 i⟩
def yD(a b:YY)(i:Nat):ft (a++b) i=if i<a.length then ft a i else ft b (i-a.length):=by
 unfold ft;by_cases h:i<a.length
 .rw[VG h,VU h]
 rw[VF h,VW<|by omega]
def A5(a b:YW)(i:Nat):(a++b).getD i aE=if i<a.length then a.getD i aE else b.getD (i-a.length) aE:=by
 simp only[List.getD];split
 .rename_i h;rw[VU h]
 rename_i h;rw[VW<|by omega]
def aZ.append{a b:YY}{r q:YW}(h:aZ a r)(k:aZ b q):aZ (a++b)<|r++q:=by
 refine⟨by rw[VH,VH,h.1,k.1],λv c=>?_,λi=>?_⟩
 .obtain c|c:=V1.1 c
  .exact h.2.1 v c
  exact k.2.1 v c
 rw[yD,A5,h.1];split
 .exact h.2.2 i
 exact k.2.2 _
def FO(n i:Nat):(List.replicate n aE).getD i aE=aE:=by simp only[List.getD,Xw];split<;>rfl
def aZ.d(a:YY):aZ a<|List.replicate a.length aE:=by
 refine⟨by simp,λv b=>?_,λi=>?_⟩
 .rw[List.eq_of_mem_replicate b];exact pN
 rw[FO];exact .inl rfl
def aZ.nil:aZ [] []:=⟨rfl,λv a=>(by cases a),λi=>.inl rfl⟩
def sq:aK .nil=fR 3 1 []:=rfl
def nV(h:sS R):cY<|aK R:=by
 obtain rfl|h:=h
 .rw[sq];obtain⟨a,b,c⟩:=lD (aC:=3) (n:=1) (s:=[])<|.inr<|.inr<|.inr ⟨rfl,.inr rfl,rfl⟩;exact⟨a,b,by rw[c];decide⟩
 cases R with
 |nil=>exact absurd h.1 id
 |node=>exact h
def vd(b:YY)(a:YW):bZ b a (aK .nil)=.ok (bh true):=by rw[sq];rfl
def oH(a:YY):aT a (aK .nil) 3=none:=by rw[sq];rfl
def lz{d:YY}{c:YW}(k:aZ d c):∀{g:Y6}{i:YW},(∀t∈g,cY t)->bH d c g=.ok i->i.length=g.length/\gY i
 |[],i,_,h=>by simp[bH]at h;subst h;exact⟨rfl,λv a=>by cases a⟩
 |t::g,i,ht,h=>by
  unfold bH at h;cases he:bZ d c t with
  |error e=>rw[he]at h;cases h
  |ok v=>
   rw[he]at h;simp only at h;cases hs:bH d c g with
   |error e=>rw[hs]at h;cases h
   |ok us=>
    rw[hs]at h;simp at h;subst h;obtain⟨a,b⟩:=lz k (λt h=>ht t<|by simp[h]) hs;refine⟨by simp[a],λu j=>?_⟩;obtain rfl|j:=V8.1 j
    .exact jN d k.2.1 (ht t<|by simp).2.1 he
    exact b u j
def fF(ab:YY)(ts:Y6):List Int:=ts.map λt=>match bD ab t with|.ok a=>a|.error _=>0
def m_{b:YY}:∀{d:Y6},bE b d=none->∀t∈d,∃g,bD b t=.ok g
 |[],_,t,h=>by cases h
 |t::d,h,u,c=>by
  unfold bE at h;cases ht:bD b t with
  |error e=>rw[ht]at h;cases h
  |ok a=>
   rw[ht]at h;obtain rfl|c:=V8.1 c
   .exact⟨a,ht⟩
   exact m_ h u c
def gv{b:YY}(h:aT b R M=none):∃c,bD b R=.ok c/\dt c M=true:=by
 unfold aT at h;cases ht:bD b R with
 |error e=>rw[ht]at h;cases h
 |ok a=>
  rw[ht]at h;refine⟨a,rfl,?_⟩;simp only at h;split at h
  .assumption
  cases h
def nX{g:YY}{d:YW}(n:aZ g d):∀{j:Y6}{l:YW},(∀t∈j,cY t)->(∀t∈j,∃o,bD g t=.ok o)->bH g d j=.ok l->hZ (fF g j) l
 |[],l,_,_,h=>by simp[bH]at h;subst h;exact⟨rfl,λi v o a=>by simp at a⟩
 |t::j,l,ht,hty,h=>by
  unfold bH at h;cases he:bZ g d t with
  |error e=>rw[he]at h;cases h
  |ok v=>
   rw[he]at h;simp only at h;cases hs:bH g d j with
   |error e=>rw[hs]at h;cases h
   |ok us=>
    rw[hs]at h;simp at h;subst h;obtain⟨a,b⟩:=nX n (λt h=>ht t<|by simp[h]) (λt h=>hty t<|by simp[h]) hs;obtain⟨o,q⟩:=hty t (by simp);refine⟨by simp[fF]at a ⊢;exact a,λi u p k c=>?_⟩;cases i with
    |zero=>
     simp[fF]at k c;subst k;rw[q]at c;simp at c;subst c;exact jG n.2.1 n.2.2 (ht t<|by simp).1 (ht t<|by simp).2.1 q he
    |succ i=>
     simp[fF]at k c;exact b i u p k (by simp[fF];exact c)
def cx{a:aI}(h:bO a X=some i):i<a.length:=by unfold bO at h;rw[XN]at h;exact h.1
def dS{a:aI}(h:i<a.length):ak a i∈a:=by unfold ak;rw[Wm,VE h];exact VQ h
def kD(b:aI)(i:Nat)(a:List YW):(cm b i a).length=b.length:=by simp[cm]
def Bk{c:aI}{b:List YW}{t:bV}(e:i<c.length)(h:t∈cm c i b):t∈c\/t=⟨(ak c i).name,(ak c i).a,b⟩:=by
 unfold cm at h;rw[Wn]at h;obtain⟨j,a⟩:=h;rw[X6]at a;by_cases d:i=j
 .subst d;rw[VE e]at a;simp at a;right;rw[<-a];unfold ak;rw[Wm,VE e];rfl
 left;rw[Wn];refine⟨j,?_⟩;cases hg:c[j]? with
 |none=>rw[hg]at a;simp at a
 |some x=>rw[hg]at a;simp[d]at a;rw[a]
def ec.set{b:aI}(h:ec b){i:Nat}(d:i<b.length){a:List YW}(e:a.length<=25)(g:∀r∈a,aZ (ax []<|ak b i) r):ec<|cm b i a:=by
 refine⟨by rw[kD];exact h.1,λt c=>?_⟩;obtain c|rfl:=Bk d c
 .exact h.2 t c
 have:=h.2 _<|dS d;exact⟨this.b,this.pos,this.a,this.name,e,g,this.nodup⟩
def zm:∀{b:Y6}{d:List (YX×Int)}{j:YW},(∀t∈b,cY t)->(∀c∈d,c.2≠0)->b.length=d.length->eI b (d.map (·.2))=none->bH [] [] b=.ok j->∀i,cX ((d.getD i ([],0)).2) (j.getD i aE)
 |[],[],j,_,_,_,_,h,i=>by simp[bH]at h;subst h;exact .inl rfl
 |[],c::d,_,_,_,hl,_,_,_=>by simp at hl
 |t::b,[],_,_,_,hl,_,_,_=>by simp at hl
 |t::b,c::d,j,ht,hc,hl,htc,h,i=>by
  unfold bH at h;cases he:bZ [] [] t with
  |error e=>rw[he]at h;cases h
  |ok v=>
   rw[he]at h;simp only at h;cases hs:bH [] [] b with
   |error e=>rw[hs]at h;cases h
   |ok us=>
    rw[hs]at h;simp at h;subst h;simp only[We,eI]at htc;cases ha:aT [] t c.2 with
    |some e=>rw[ha]at htc;cases htc
    |none=>
     rw[ha]at htc;cases i with
     |zero=>
      obtain⟨l,k,a⟩:=gv ha;have:=jG aZ.nil.2.1 aZ.nil.2.2 (ht t<|by simp).1 (ht t<|by simp).2.1 k he;simp only[List.getD_cons_zero];obtain g|g:=this
      .exact .inl g
      unfold dt at a;simp at a;obtain(e|e)|e:=a
      .exact .inr<|by rw[g,e]
      .exact .inl<|by rw[g,e]
      exact absurd e<|hc c<|by simp
     |succ i=>
      simp only[List.getD_cons_succ];exact zm (λt h=>ht t<|by simp[h]) (λc h=>hc c<|by simp[h]) (by simpa using hl) htc hs i
def vJ{g:YY}:∀{rows:List YW}{z:List YW×List YW},j9 g R rows=.ok z->(∀r∈z.1,r∈rows)/\(∀r∈z.2,r∈rows)/\z.1.length+z.2.length=rows.length
 |[],z,h=>by simp[j9]at h;subst h;simp
 |r::rs,z,h=>by
  unfold j9 at h;cases he:bZ g r R with
  |error e=>rw[he]at h;cases h
  |ok v=>
   rw[he]at h;simp only at h;cases hs:j9 g R rs with
   |error e=>rw[hs]at h;cases h
   |ok y=>
    rw[hs]at h;simp only at h;obtain⟨a,b,d⟩:=vJ hs;injection h with h;split at h
    .subst h;refine⟨λx c=>?_,λx c=>WH _<|b x c,by simp;omega⟩;obtain rfl|c:=V8.1 c
     .simp
     exact WH _<|a x c
    subst h;refine⟨λx c=>WH _<|a x c,λx c=>?_,by simp;omega⟩;obtain rfl|c:=V8.1 c
    .simp
    exact WH _<|b x c
def Cb{v:ai}(d:M≠0)(h:dt a M=true)(c:cX a v):cX M v:=by
 obtain b|b:=c
 .exact .inl b
 unfold dt at h;simp at h;obtain(e|e)|e:=h
 .exact .inr<|by rw[b,e]
 .exact .inl<|by rw[b,e]
 exact absurd e d
def nK(t:bV)(ks:Y4)(ts:Y6):Prop:=ks.length=ts.length/\∀(j k:Nat)(x:aA),ks[j]?=some k->ts[j]?=some x->k<t.a.length/\aT (ax t.name t) x ((t.a.getD k ([],0)).2)=none
def wG{t:bV}(h:dY t X=some k):k<t.a.length:=by unfold dY at h;rw[XN]at h;exact h.1
def nJ{t:bV}:∀{aN:Y3}{a ks:Y4},b_ t a aN=.ok ks->∃m,ks=a++m/\nK t m (aN.map (·.aW))
 |[],a,ks,h=>by simp[b_]at h;subst h;exact⟨[],by simp,rfl,λj k x b=>by simp at b⟩
 |it::aN,a,ks,h=>by
  unfold b_ at h;cases hc:dY t it.name with
  |none=>rw[hc]at h;cases h
  |some k=>
   rw[hc]at h;simp only at h;split at h
   .cases h
   cases ha:aT (ax t.name t) it.aW ((t.a.getD k ([],0)).2)with
   |some e=>rw[ha]at h;cases h
   |none=>
    rw[ha]at h;obtain⟨m,rfl,d⟩:=nJ h;refine⟨k::m,by simp,by simp[d.1],λj g x b c=>?_⟩;cases j with
    |zero=>simp at b c;subst b;subst c;exact⟨wG hc,ha⟩
    |succ j=>simp at b c;exact d.2 j g x b<|by simpa using c
def FP(l:YW)(k i:Nat)(v:ai):(l.set k v).getD i aE=if k=i/\i<l.length then v else l.getD i aE:=by
 simp only[List.getD,Wq];by_cases h:k=i
 .subst h;by_cases a:k<l.length
  .simp[a]
  simp[a]
 simp[h]
def xI{t:bV}(o:ij t){a:YW}(d:aZ (ax t.name t) a):∀{ks:Y4}{b:Y6}{out c:YW},(∀x∈b,cY x)->nK t ks b->aZ (ax t.name t) out->gO (ax t.name t) a out ks b=.ok c->aZ (ax t.name t) c
 |[],b,out,c,_,hs,ho,h=>by
  cases b with
  |nil=>simp[gO]at h;subst h;exact ho
  |cons x b=>simp[nK]at hs
 |k::ks,[],out,c,_,hs,ho,h=>by simp[nK]at hs
 |k::ks,x::b,out,c,hx,hs,ho,h=>by
  unfold gO at h;cases he:bZ (ax t.name t) a x with
  |error e=>rw[he]at h;cases h
  |ok v=>
   rw[he]at h;obtain⟨hk,g⟩:=hs.2 0 k x rfl rfl;refine xI o d (λy n=>hx y<|by simp[n]) ⟨by simpa using hs.1,λj z y r n=>hs.2 (j+1) z y (by simpa using r)<|by simpa using n⟩ ?_ h;refine⟨by rw[Wu];exact ho.1,λu l=>?_,λi=>?_⟩
   .obtain l|rfl:=Xl l
    .exact ho.2.1 u l
    exact jN _ d.2.1 (hx x<|by simp).2.1 he
   rw[FP];split
   ·rename_i hi;obtain⟨rfl,_⟩:=hi;obtain⟨A,p,q⟩:=gv g;rw[uS];refine Cb ?_ q<|jG d.2.1 d.2.2 (hx x<|by simp).1 (hx x<|by simp).2.1 p he;have w:t.a.getD k ([],0)∈t.a:=by
     rw[Wm,VE hk];exact VQ hk
    have:=(o.a _ w).1;omega
   exact ho.2.2 i
def oY{t:bV}(k:ij t){g:Y4}{c:Y6}(l:∀x∈c,cY x)(j:nK t g c):∀{rows:List YW}{z:List YW×Nat},(∀r∈rows,aZ (ax t.name t) r)->cV (ax t.name t) R g c rows=.ok z->(∀r∈z.1,aZ (ax t.name t) r)/\z.1.length=rows.length/\z.2<=rows.length
 |[],z,_,h=>by simp[cV]at h;subst h;simp
 |r::rs,z,hr,h=>by
  unfold cV at h;cases he:bZ (ax t.name t) r R with
  |error e=>rw[he]at h;cases h
  |ok v=>
   rw[he]at h;simp only at h;split at h
   .cases h1:gO (ax t.name t) r r g c with
    |error e=>rw[h1]at h;cases h
    |ok r'=>
     rw[h1]at h;simp only at h;cases h2:cV (ax t.name t) R g c rs with
     |error e=>rw[h2]at h;cases h
     |ok y=>
      rw[h2]at h;simp at h;subst h;obtain⟨a,b,d⟩:=oY k l j (λr h=>hr r<|by simp[h]) h2;refine⟨λq i=>?_,by simp[b],by simp;omega⟩;obtain rfl|i:=V8.1 i
      .exact xI k (hr r<|by simp) l j (hr r<|by simp) h1
      exact a q i
   cases h2:cV (ax t.name t) R g c rs with
   |error e=>rw[h2]at h;cases h
   |ok y=>
    rw[h2]at h;simp at h;subst h;obtain⟨a,b,d⟩:=oY k l j (λr h=>hr r<|by simp[h]) h2;refine⟨λq i=>?_,by simp[b],by simp;omega⟩;obtain rfl|i:=V8.1 i
    .exact hr q<|by simp
    exact a q i
def sx:∀{l a:List YX},ig a l=false->l.Nodup/\∀x∈l,x ∉ a
 |[],a,_=>⟨List.nodup_nil,λx h=>by cases h⟩
 |y::l,a,h=>by
  simp only[ig,Bool.or_eq_false_iff]at h;obtain⟨e,d⟩:=sx h.2;refine⟨List.nodup_cons.2 ⟨λg=>d y g<|by simp,e⟩,λx b=>?_⟩;obtain rfl|b:=V8.1 b
  .simpa using h.1
  exact λc=>d x b<|by simp[c]
def D0{l:List YX}(h:nr l=false):l.Nodup:=(sx h).1
def AK(a:aI)(s:aX):(fi a s).1=a:=by
 unfold fi;repeat' split
 all_goals rfl
def nW{n:aI}{s:aX}(o:eL s)(h:ec n):ec (d_ n s).1:=by
 unfold d_;split
 .rename_i hk;unfold dk;split
  .exact h
  rename_i b;split
  .exact h
  rename_i k;refine⟨by have:=h.1;simp;omega,λt d=>?_⟩;obtain d|d:=V1.1 d
  .exact h.2 t d
  simp at d;subst d;obtain⟨j,hi⟩:=o.create hk;refine⟨by simpa using j,?_,λc e=>?_,o.j,by simp,by simp,by simp at b;simpa[Function.comp_def]using D0 b.2⟩
  .have:=o.some_<|.inr hk;cases hit:s.c with
   |nil=>exact absurd hit this
   |cons a l=>simp
  simp at e;obtain⟨i,a,rfl⟩:=e;exact hi i a
 rename_i g;split
 .unfold dI;cases q:bO n s.table with
  |none=>exact h
  |some i=>
   have hi:=cx q;have e:=h.2 _<|dS hi;simp only;split
   .exact h
   rename_i d;simp only[ne_eq,Decidable.not_not]at d;split
   .exact h
   rename_i u;split
   .exact h
   rename_i row l;split
   .exact h
   rename_i w;have p:∀t∈s.c.map (·.aW),cY t:=by intro t q;simp at q;obtain⟨j,a,rfl⟩:=q;exact o.c g j a
   refine h.set hi (by have:=e.d;simp;omega) λr k=>?_;obtain k|k:=V1.1 k
   .exact e.rows r k
   simp at k;subst k;obtain⟨a,b⟩:=lz aZ.nil p l;refine⟨by rw[a,cH];simpa using d,b,λj=>?_⟩;rw[uS];exact zm p (λc x=>by have:=(e.a c x).1;omega) (by simpa using d) u l j
 split
 .unfold dm;cases j:bO n s.table with
  |none=>exact h
  |some i=>
   have hi:=cx j;have d:=h.2 _<|dS hi;simp only;split
   .exact h
   split
   .exact h
   rename_i z k;obtain⟨a,b,c⟩:=vJ k;exact h.set hi (by have:=d.d;simp;omega) λr e=>d.rows r<|b r e
 split
 .unfold cS;cases k:bO n s.table with
  |none=>exact h
  |some i=>
   have hi:=cx k;have d:=h.2 _<|dS hi;simp only;split
   .exact h
   rename_i ks l;obtain⟨m,u,e⟩:=nJ l;simp at u;subst u;split
   .exact h
   split
   .exact h
   rename_i z x;have q:∀t∈s.c.map (·.aW),cY t:=by intro t k;simp at k;obtain⟨j,w,rfl⟩:=k;exact o.c g j w
   obtain⟨a,b,c⟩:=oY d q e (λr p=>(d.rows r p).src) x;exact h.set hi (by have:=d.d;simp;omega) λr p=>(a r p).c
 rw[AK];exact h
def ZW{a:aI}(h:ec a):ec (fx a X).1:=by
 unfold fx;cases hp:bp X with
 |none=>exact h
 |some s=>exact nW (ix hp) h
def xV:∀(a b:YX)(m:Int),dK m (a++b)=dK (dK m a) b
 |[],_,_=>rfl
 |c::a,b,m=>xV a b _
def oj(h:k<10):(UInt8.ofNat<|48+k).toNat=48+k:=by rw[XD];omega
def C6(h:k<10):aQ (UInt8.ofNat<|48+k)=true:=by rw[gg,oj h];omega
def wK:∀(f n:Nat)(a:YX),1<=f->n<10 ^ f->∃b,gH f n a=b++a/\b≠[]/\(∀c∈b,aQ c=true)/\dK 0 b=n/\b.length<=f
 |0,n,a,d,h=>by omega
 |f+1,n,a,_,h=>by
  unfold gH;split
  .rename_i d;refine⟨[UInt8.ofNat<|48+n],rfl,by simp,?_,?_,by simp⟩
   .intro c e;rw[Yg]at e;subst e;exact C6 d
   show(10*0+(((UInt8.ofNat<|48+n).toNat:Int)-48))=n;rw[oj d];omega
  have e:n % 10<10:=Yx _ (by decide);have k:1<=f:=by
   cases f with
   |zero=>simp at h;omega
   |succ f=>omega
  obtain⟨b,g,l,i,j,o⟩:=wK f (n / 10) (UInt8.ofNat (48+n % 10)::a) k (by rw[XK]at h;exact XI (by rw[Xg];exact h));refine⟨b++[UInt8.ofNat<|48+n % 10],by rw[g];simp,by simp,?_,?_,by simp;omega⟩
  .intro c d;obtain d|d:=V1.1 d
   .exact i c d
   rw[Yg]at d;subst d;exact C6 e
  rw[xV,j];show(10*((n / 10:Nat):Int)+(((UInt8.ofNat<|48+n % 10).toNat:Int)-48))=n;rw[oj e];omega
def tx{n:Nat}(h:n<10 ^ 20):gV n≠[]/\(∀c∈gV n,aQ c=true)/\dK 0 (gV n)=n/\(gV n).length<=20:=by
 obtain⟨a,b,d,e,g,i⟩:=wK 20 n [] (by decide) h;have:gV n=a:=by rw[gV,b];simp
 rw[this];exact⟨d,e,g,i⟩
abbrev bK(n:Int):Prop:=-9223372036854775808<=n/\n<=9223372036854775807
def rW(a:YY)(r:YW):∀qs:List YW,bd a (aK .nil) r qs=.ok (qs.map (r++·))
 |[]=>rfl
 |q::qs=>by unfold bd;rw[vd];simp only;rw[rW a r qs];simp
def Cl(b:YY)(n:Nat)(a:List YW):aR b (aK .nil) false n a [[]]=.ok a:=by unfold aR;rw[rW];simp[aR]
def lg(h:cY R):aK R=R:=by
 cases R with
 |nil=>exact absurd h.1 id
 |node=>rfl
def bP(db:aI):YY->List YW->Y4->Y3->aV (List YW)
 |ab,rows,i::is,it::aN=>match aR (ab++ax it.aY (ak db i)) (aK it.aW) it.eC (ak db i).a.length (ak db i).rows rows with
  |.error e=>.error e
  |.ok z=>bP db (ab++ax it.aY (ak db i)) z is aN
 |_,rows,_,_=>.ok rows
def bT(db:aI):YY->Y4->Y3->Option Nat
 |ab,i::is,it::aN=>match aT (ab++ax it.aY (ak db i)) (aK it.aW) 3 with
  |some e=>some e
  |none=>bT db (ab++ax it.aY (ak db i)) is aN
 |_,_,_=>none
def sK(a:aI):∀(ab:YY)(rows:List YW)(is:Y4)(aN:Y3),(∀i∈aN,cY i.aW)->bP a ab rows is aN=mv a ab rows is aN
 |ab,rows,[],aN,_=>by cases aN<;>rfl
 |ab,rows,i::is,[],_=>rfl
 |ab,rows,i::is,it::aN,h=>by
  unfold bP mv;rw[lg<|h it<|by simp];cases aR (ab++ax it.aY (ak a i)) it.aW it.eC (ak a i).a.length (ak a i).rows rows with
  |error e=>rfl
  |ok z=>exact sK a _ _ _ _ λj b=>h j<|by simp[b]
def xr(a:aI):∀(ab:YY)(is:Y4)(aN:Y3),(∀i∈aN,cY i.aW)->bT a ab is aN=pO a ab is aN
 |ab,[],aN,_=>by cases aN<;>rfl
 |ab,i::is,[],_=>rfl
 |ab,i::is,it::aN,h=>by
  unfold bT pO;rw[lg<|h it<|by simp];cases aT (ab++ax it.aY (ak a i)) it.aW 3 with
  |some e=>rfl
  |none=>exact xr a _ _ _ λj b=>h j<|by simp[b]
def jT{d:aI}:∀{aN:Y3}{c:List YX}{is:Y4},bq d c aN=.ok is->is.length=aN.length/\∀i∈is,i<d.length
 |[],_,is,h=>by simp[bq]at h;subst h;simp
 |it::aN,c,is,h=>by
  unfold bq at h;cases ht:bO d it.name with
  |none=>rw[ht]at h;cases h
  |some i=>
   rw[ht]at h;simp only at h;split at h
   .cases h
   cases hs:bq d (c++[it.aY]) aN with
   |error e=>rw[hs]at h;cases h
   |ok js=>
    rw[hs]at h;simp at h;subst h;obtain⟨a,b⟩:=jT hs;refine⟨by simp[a],λk hk=>?_⟩;obtain rfl|hk:=V8.1 hk
    .exact cx ht
    exact b k hk
def ch(db:aI)(s:aX):aV<|List YW:=match bq db [] s.b with
 |.error e=>.error e
 |.ok is=>match bT db [] is s.b with
  |some e=>.error e
  |none=>match bE (aw db is s.b) (cZ s<|aw db is s.b)with
   |some e=>.error e
   |none=>match aT (aw db is s.b) (aK s.d) 3 with
    |some e=>.error e
    |none=>match bE (aw db is s.b) (s.e.map (·.aW))with
     |some e=>.error e
     |none=>match bP db [] [[]] is s.b with
      |.error e=>.error e
      |.ok rows=>fb (aw db is s.b) s rows
def p9{db:aI}{s:aX}(o:eL s)(l:s.aC=115):fi db s=match ch db s with
 |.error e=>(db,di e)
 |.ok out=>(db,⟨out,0,0⟩):=by
 obtain⟨a,m,c,d,b,_,g⟩:=o.b l;unfold fi ch;rw[c];cases h0:bq db [] (a::m)with
 |error e=>rfl
 |ok is=>
  obtain⟨n,_⟩:=jT h0;cases is with
  |nil=>simp at n
  |cons i is=>
   have h:aw db ((i::is).take 1) ((a::m).take 1)=ax a.aY (ak db i):=by simp[aw]
   have j:bT db [] (i::is) (a::m)=pO db (ax a.aY<|ak db i) is m:=by unfold bT;rw[d,oH];simp only[Wz];exact xr db _ _ _ g
   have k:bP db [] [[]] (i::is) (a::m)=mv db (ax a.aY<|ak db i) (ak db i).rows is m:=by unfold bP;rw[d,b,Cl];simp only[Wz];exact sK db _ _ _ _ g
   simp only[h,j,k,X_,WG,List.headD_cons];cases pO db (ax a.aY<|ak db i) is m with
   |some e=>rfl
   |none=>
    simp only;cases bE (aw db (i::is)<|a::m) (cZ s<|aw db (i::is)<|a::m)with
    |some e=>rfl
    |none=>
     simp only;cases aT (aw db (i::is)<|a::m) (aK s.d) 3 with
     |some e=>rfl
     |none=>
      simp only;cases bE (aw db (i::is)<|a::m) (s.e.map (·.aW))with
      |some e=>rfl
      |none=>
       simp only;cases mv db (ax a.aY<|ak db i) (ak db i).rows is m with
       |error e=>rfl
       |ok rows=>first|rfl|(simp only;cases fb (aw db (i::is)<|a::m) s rows<;>rfl)
def wg{a b:YY}{r:YW}(g:aZ a r):∀{qs z:List YW},(∀q∈qs,aZ b q)->bd (a++b) R r qs=.ok z->(∀x∈z,aZ (a++b) x)/\z.length<=qs.length
 |[],z,_,h=>by simp[bd]at h;subst h;simp
 |q::qs,z,hq,h=>by
  unfold bd at h;cases he:bZ (a++b) (r++q) R with
  |error e=>rw[he]at h;cases h
  |ok v=>
   rw[he]at h;simp only at h;cases hs:bd (a++b) R r qs with
   |error e=>rw[hs]at h;cases h
   |ok y=>
    rw[hs]at h;simp only at h;injection h with h;obtain⟨d,i⟩:=wg g (λq h=>hq q<|by simp[h]) hs;split at h
    .subst h;refine⟨λx c=>?_,by simp;omega⟩;obtain rfl|c:=V8.1 c
     .exact g.append<|hq q<|by simp
     exact d x c
    subst h;exact⟨d,by simp;omega⟩
def lW{a b:YY}{c:aA}{left:Bool}{g:List YW}(j:∀q∈g,aZ b q)(i:g.length<=25):∀{rows z:List YW},(∀r∈rows,aZ a r)->aR (a++b) c left b.length g rows=.ok z->(∀x∈z,aZ (a++b) x)/\z.length<=rows.length*25
 |[],z,_,h=>by simp[aR]at h;subst h;simp
 |r::rs,z,hr,h=>by
  unfold aR at h;cases he:bd (a++b) c r g with
  |error e=>rw[he]at h;cases h
  |ok y=>
   rw[he]at h;simp only at h;cases hs:aR (a++b) c left b.length g rs with
   |error e=>rw[hs]at h;cases h
   |ok u=>
    rw[hs]at h;simp only at h;injection h with h;obtain⟨k,n⟩:=wg (hr r<|by simp) j he;obtain⟨l,o⟩:=lW j i (λr h=>hr r<|by simp[h]) hs;subst h;constructor
    .intro x d;obtain d|d:=V1.1 d
     .split at d
      .simp at d;subst d;exact(hr r<|by simp).append (aZ.d b)
      exact k x d
     exact l x d
    rw[VH,Wk];have:(if (left&&y.isEmpty)=true then [r++List.replicate b.length aE]else y).length<=25:=by
     split
     .simp
     omega
    omega
def sL{b:aI}(h:ec b):∀{is:Y4}{aN:Y3}{ab:YY}{rows z:List YW},is.length=aN.length->(∀i∈is,i<b.length)->(∀r∈rows,aZ ab r)->bP b ab rows is aN=.ok z->(∀x∈z,aZ (ab++aw b is aN) x)/\z.length<=rows.length*25 ^ is.length
 |[],aN,ab,rows,z,hl,_,hr,hz=>by
  cases aN with
  |nil=>simp[bP]at hz;subst hz;simpa[aw]using hr
  |cons=>simp at hl
 |i::is,[],ab,rows,z,hl,_,hr,hz=>by simp at hl
 |i::is,it::aN,ab,rows,z,hl,hi,hr,hz=>by
  unfold bP at hz;have a:=h.2 _<|dS<|hi i (by simp);cases he:aR (ab++ax it.aY (ak b i)) (aK it.aW) it.eC (ak b i).a.length (ak b i).rows rows with
  |error e=>rw[he]at hz;cases hz
  |ok y=>
   rw[he]at hz;rw[<-cH it.aY]at he;obtain⟨c,d⟩:=lW (λq n=>(a.rows q n).src) a.d hr he;obtain⟨g,k⟩:=sL h (by simpa using hl) (λj l=>hi j<|by simp[l]) c hz;refine⟨λx o=>by have:=g x o;simpa[aw]using this,?_⟩;rw[Wk,XK]
   calc z.length<=y.length*25 ^ is.length:=k
    _<=rows.length*25*25 ^ is.length:=Wy _ d
    _=rows.length*(25 ^ is.length*25):=by rw[XG,Xg 25]
def qk{d:YY}{c:Y6}(i:∀t∈c,cY t):∀{rows out:List YW},(∀r∈rows,aZ d r)->aU d c rows=.ok out->out.length=rows.length/\∀v∈out,v.length=c.length/\gY v
 |[],out,_,h=>by simp[aU]at h;subst h;simp
 |r::rs,out,hr,h=>by
  unfold aU at h;cases he:bH d r c with
  |error e=>rw[he]at h;cases h
  |ok v=>
   rw[he]at h;simp only at h;cases hs:aU d c rs with
   |error e=>rw[hs]at h;cases h
   |ok us=>
    rw[hs]at h;simp at h;subst h;obtain⟨a,b⟩:=qk i (λr h=>hr r<|by simp[h]) hs;refine⟨by simp[a],λu g=>?_⟩;obtain rfl|g:=V8.1 g
    .exact lz (hr r<|by simp) i he
    exact b u g
def rq{a:YY}{b:Y6}(g:∀t∈b,cY t)(c:∀t∈b,∃i,bD a t=.ok i):∀{rows out:List YW},(∀r∈rows,aZ a r)->aU a b rows=.ok out->∀v∈out,hZ (fF a b) v
 |[],out,_,h=>by simp[aU]at h;subst h;simp
 |r::rs,out,hr,h=>by
  unfold aU at h;cases he:bH a r b with
  |error e=>rw[he]at h;cases h
  |ok v=>
   rw[he]at h;simp only at h;cases hs:aU a b rs with
   |error e=>rw[hs]at h;cases h
   |ok us=>
    rw[hs]at h;simp at h;subst h;intro u d;obtain rfl|d:=V8.1 d
    .exact nX (hr r<|by simp) g c he
    exact rq g c (λr h=>hr r<|by simp[h]) hs u d
def yZ{α:Type}{d:α->α->Bool}(h:jC d){p q:List α}{x:α}(e:(p++q).Pairwise λa b=>d a b=true)(j:p=[]\/∃y i,p=i++[y]/\d y x=true)(k:∀y∈q,d y x=false):eS d (p++q) [x]=p++x::q:=by
 refine y_ ?_ k;obtain rfl|⟨y,i,rfl,g⟩:=j
 .simp
 intro z c;obtain c|c:=V1.1 c
 .rw[Wh,WE]at e;exact h.trans _ _ _ (e.2.2 z c y<|by simp) g
 simp at c;subst c;exact g
def Bm{p:h_}:∀{f:Nat}{a:Y3}{b:YV}{l:Y3}{r:YV},dW p f a b=some (l,r)->l≠[]
 |0,_,_,_,_,h=>by simp[dW]at h
 |f+1,a,b,l,r,h=>by
  rw[dW]at h;cases hp:p b with
  |none=>rw[hp]at h;cases h
  |some z=>
   obtain⟨x,c⟩:=z;rw[hp]at h;simp only at h;split at h
   .exact Bm h
   cases h;simp
def EM{a:Y3}(h:eZ D=some ((b,a),E)):b=false->a≠[]:=by
 unfold eZ at h;split at h
 .cases h;intro e;cases e
 cases hl:bR dc D with
 |none=>rw[hl]at h;cases h
 |some z=>
  rw[hl]at h;obtain⟨l,c⟩:=z;cases h;intro _;exact Bm hl
def wP{a:Y3}{s:aX}(h:kA b L a D=some (s,E)):s.all=L/\s.c=a:=by
 unfold kA at h;split at h
 .cases hs:dn D.tail with
  |none=>rw[hs]at h;cases h
  |some z=>
   rw[hs]at h;simp only[mC]at h;split at h
   .cases h
   unfold kR at h;cases hw:bX z.2 with
   |none=>rw[hw]at h;cases h
   |some y=>
    rw[hw]at h;simp only[nO]at h;cases hk:eT y.2 with
    |none=>rw[hk]at h;cases h
    |some q=>
     rw[hk]at h;simp only[mE,ik]at h;cases hlm:dR q.2 with
     |none=>rw[hlm]at h;cases h
     |some m=>rw[hlm]at h;cases h;exact⟨rfl,rfl⟩
 cases h
def xN{s:aX}(h:aJ D=some (s,E)):s.aC=115->s.all=false->s.c≠[]:=by
 intro hk;unfold aJ at h;split at h
 .exfalso;unfold dB at h;repeat' split at h
  all_goals (first|cases h)
  all_goals (simp[eM]at hk)
 split at h
 .exfalso;unfold dP at h;repeat' split at h
  all_goals (first|cases h)
  all_goals (simp[eM]at hk)
 split at h
 .exfalso;unfold ez at h;repeat' split at h
  all_goals (first|cases h)
  all_goals (simp[eM]at hk)
 split at h
 .exfalso;unfold eA at h;repeat' split at h
  all_goals (first|cases h)
  all_goals (simp[eM]at hk)
 split at h
 .unfold ck at h;cases ht:eZ (gF D.tail)with
  |none=>rw[ht]at h;cases h
  |some z=>
   obtain⟨⟨all,aD⟩,c⟩:=z;rw[ht]at h;obtain⟨a,b⟩:=wP h;rw[a,b];exact EM ht
 cases h
def Cv{s:aX}(h:bp X=some s):s.aC=115->s.all=false->s.c≠[]:=by
 unfold bp at h;split at h
 .cases h
 cases hz:aJ (de X)with
 |none=>rw[hz]at h;cases h
 |some z=>
  obtain⟨a,r⟩:=z;rw[hz]at h;simp only[kK]at h;split at h
  .simp at h;subst h;exact xN hz
  cases h
def tS{a:YY}{r:YW}:∀{qs z:List YW},bd a R r qs=.ok z->z.length<=qs.length
 |[],z,h=>by simp[bd]at h;subst h;simp
 |q::qs,z,h=>by
  unfold bd at h;cases he:bZ a (r++q) R with
  |error e=>rw[he]at h;cases h
  |ok v=>
   rw[he]at h;simp only at h;cases hs:bd a R r qs with
   |error e=>rw[hs]at h;cases h
   |ok y=>
    rw[hs]at h;simp only at h;injection h with h;have b:=tS hs;split at h<;>(subst h;simp;omega)
def ry{b:YY}{left:Bool}{m:Nat}{a:List YW}(d:a.length<=m)(c:1<=m):∀{rows z:List YW},aR b R left n a rows=.ok z->z.length<=rows.length*m
 |[],z,h=>by simp[aR]at h;subst h;simp
 |r::rs,z,h=>by
  unfold aR at h;cases he:bd b R r a with
  |error e=>rw[he]at h;cases h
  |ok y=>
   rw[he]at h;simp only at h;cases hs:aR b R left n a rs with
   |error e=>rw[hs]at h;cases h
   |ok u=>
    rw[hs]at h;simp only at h;injection h with h;have g:=tS he;have i:=ry d c hs;subst h;rw[VH,Wk,YU];have:(if (left&&y.isEmpty)=true then [r++List.replicate n aE]else y).length<=m:=by
     split
     .simpa using c
     omega
    omega
def Hk{a:aI}{m:Nat}(h:∀t∈a,t.rows.length<=m)(i:Nat):(ak a i).rows.length<=m:=by
 by_cases hi:i<a.length
 .exact h _<|dS hi
 unfold ak;rw[Wm,V7<|by omega];simp
def rA{a:aI}{m:Nat}(h:∀t∈a,t.rows.length<=m)(b:1<=m):∀{is:Y4}{aN:Y3}{ab:YY}{rows z:List YW},bP a ab rows is aN=.ok z->z.length<=rows.length*m ^ aN.length
 |[],aN,ab,rows,z,hj=>by
  have e:bP a ab rows [] aN=.ok rows:=by cases aN<;>rfl
  rw[e]at hj;cases hj;exact Yv _<|Nat.pow_pos<|by omega
 |i::is,[],ab,rows,z,hj=>by have e:bP a ab rows (i::is) []=.ok rows:=rfl;rw[e]at hj;cases hj;simp
 |i::is,it::aN,ab,rows,z,hj=>by
  unfold bP at hj;cases he:aR (ab++ax it.aY (ak a i)) (aK it.aW) it.eC (ak a i).a.length (ak a i).rows rows with
  |error e=>rw[he]at hj;cases hj
  |ok y=>
   rw[he]at hj;simp only at hj;rw[Wk,XK,Xg (m ^ aN.length) m,<-XG];exact Wf (rA h b hj)<|Wy _<|ry (Hk h i) b he
def kZ(a b must:Int):Int:=if (decide (0<must)&&((decide (0<a)&&a != must)||(decide (0<b)&&b != must))||((must==0)&&decide (0<a)&&decide (0<b)&&a != b))=true then 3 else 0
def JL(i:0<=a/\a<=3)(j:0<=M/\M<=3)(g:6<=k):fm k a M=if kZ a M (cD k)=0 then .ok (eR k)else .error 3:=by
 obtain⟨x,l,b,rfl⟩:∃x:Nat,True/\x<4/\(x:Int)=a:=⟨a.toNat,trivial,by omega,by omega⟩;obtain⟨y,o,c,rfl⟩:∃y:Nat,True/\y<4/\(y:Int)=M:=⟨M.toNat,trivial,by omega,by omega⟩;unfold fm;have e:cD k=0\/cD k=1\/cD k=3:=by
  unfold cD;split
  .exact .inr<|.inr rfl
  split
  .exact .inl rfl
  exact .inr<|.inl rfl
 have d:∀n:Nat,n<4->n=0\/n=1\/n=2\/n=3:=λn h=>by omega
 obtain h|h|h:=e<;>rw[h]<;>obtain rfl|rfl|rfl|rfl:=d x b<;>obtain rfl|rfl|rfl|rfl:=d y c<;>rfl
def Ja(e:0<=a/\a<=3):fm k a a=if kZ a 0 (cD k)=0 then .ok (eR k)else .error 3:=by
 obtain⟨x,g,b,rfl⟩:∃x:Nat,True/\x<4/\(x:Int)=a:=⟨a.toNat,trivial,by omega,by omega⟩;unfold fm;have d:cD k=0\/cD k=1\/cD k=3:=by
  unfold cD;split
  .exact .inr<|.inr rfl
  split
  .exact .inl rfl
  exact .inr<|.inl rfl
 have c:∀n:Nat,n<4->n=0\/n=1\/n=2\/n=3:=λn h=>by omega
 obtain h|h|h:=d<;>rw[h]<;>obtain rfl|rfl|rfl|rfl:=c x b<;>rfl
def fy(a b:ai):Int:=if a.aC<b.aC then -1 else if b.aC<a.aC then 1 else if a.n<b.n\/(a.n=b.n/\Op.bytesLess a.s b.s=true)then -1 else @ite _ (a=b) (j3 a b) 0 1
def oT:∀(a b:YX),Op.bytesLess a b=true↔Lib.compareBytes a b=-1
 |_,[]=>by rename_i a;cases a<;>simp[Op.bytesLess,Lib.compareBytes]
 |[],_::_=>by simp[Op.bytesLess,Lib.compareBytes]
 |x::a,y::b=>by
  unfold Op.bytesLess Lib.compareBytes;simp only[nf,Yz,decide_eq_true_eq,X3,beq_iff_eq];by_cases c:x.toNat<y.toNat
  .have d:x<y:=nf.2 c;simp[c,d]
  by_cases d:y.toNat<x.toNat
  .have g:¬x<y:=λh=>c<|nf.1 h;have i:x≠y:=λe=>by rw[e]at d;omega
   simp[c,d,g,i]
  have e:x=y:=Wg.1 (by omega);subst e;have g:¬x<x:=λh=>c<|nf.1 h;simp[g,oT a b]
def rY:∀(a b:YX),Lib.compareBytes a b=-1\/Lib.compareBytes a b=0\/Lib.compareBytes a b=1
 |[],[]=>.inr<|.inl rfl
 |[],_::_=>.inl rfl
 |_::_,[]=>.inr<|.inr rfl
 |x::a,y::b=>by
  unfold Lib.compareBytes;split
  .exact .inl rfl
  split
  .exact .inr<|.inr rfl
  exact rY a b
def mI:∀(a:YX),Lib.compareBytes a a=0
 |[]=>rfl
 |x::a=>by
  unfold Lib.compareBytes;have h:¬x<x:=λh=>by have:=nf.1 h;omega
  rw[VF h,VF h];exact mI a
def yM:∀{a b:YX},Lib.compareBytes a b=0->a=b
 |[],[],_=>rfl
 |[],_::_,h=>by simp[Lib.compareBytes]at h
 |_::_,[],h=>by simp[Lib.compareBytes]at h
 |x::a,y::b,h=>by
  unfold Lib.compareBytes at h;simp only[nf]at h;split at h
  .omega
  split at h
  .omega
  rename_i c d;have e:x=y:=Wg.1 (by omega);rw[e,yM h]
def zh(n m:Int)(c:a≠0)(d:a≠2):(if (⟨a,n,[]⟩:ai).n<(⟨a,m,[]⟩:ai).n\/((⟨a,n,[]⟩:ai).n=(⟨a,m,[]⟩:ai).n/\Op.bytesLess (⟨a,n,[]⟩:ai).s (⟨a,m,[]⟩:ai).s=true)then (-1:Int)else @ite _ ((⟨a,n,[]⟩:ai)=⟨a,m,[]⟩) (j3 _ _) 0 1)=if (⟨a,n,[]⟩:ai).aC=0 then 0 else if (⟨a,n,[]⟩:ai).aC=2 then Lib.compareBytes (⟨a,n,[]⟩:ai).s (⟨a,m,[]⟩:ai).s else Lib.compareInt (⟨a,n,[]⟩:ai).n (⟨a,m,[]⟩:ai).n:=by
 simp only;rw[VF c,VF d];unfold Lib.compareInt;by_cases h:n<m
 .rw[VG<|.inl h,VG h]
 rw [VF (λe=>by
  obtain e|⟨_,e⟩:=e
  .exact h e
  .simp[Op.bytesLess]at e),VF h]
 by_cases b:n=m
 .subst b;rw[VG rfl,VF h]
 rw[VF (λe=>by injection e with _ e _;exact b e),VG<|by omega]
def uE{a b:ai}(u:dv a)(w:dv b)(r:cX M a)(t:cX M b):fy a b=dz a b:=by
 rw[uF r t];unfold fy iD;by_cases hk:a.aC=b.aC
 .rw[VF<|by omega,VF<|by omega,VG hk];obtain⟨x,p,l⟩:=a;obtain⟨kb,q,n⟩:=b;simp only at hk;subst hk;obtain⟨c,d,i⟩|⟨c,d,i⟩|⟨c,d,i⟩|⟨c,d,i⟩:=u<;>obtain⟨k,g,j⟩|⟨k,g,j⟩|⟨k,g,j⟩|⟨k,g,j⟩:=w;all_goals simp only at c d i k g j
  all_goals try omega
  .subst c;subst d;subst i;subst g;subst j;simp[Op.bytesLess]
  .subst c;subst d;subst g;exact zh p q (by decide)<|by decide
  .subst c;subst d;subst g;show(if (0:Int)<0\/((0:Int)=0/\Op.bytesLess l n=true)then (-1:Int)else @ite _ ((⟨2,0,l⟩:ai)=⟨2,0,n⟩) (j3 _ _) 0 1)=Lib.compareBytes l n;obtain h|h|h:=rY l n
   .rw[VG<|.inr ⟨rfl,(oT _ _).2 h⟩,h]
   ·rw [yM h,VF (λe=>by
     obtain e|⟨_,e⟩:=e
     .omega
     .rw[oT,mI]at e;omega),VG rfl,mI]
   rw [VF (λe=>by
    obtain e|⟨_,e⟩:=e
    .omega
    ·rw [oT,h] at e;omega),VF (λe=>by
    injection e with _ _ e;rw[e,mI]at h
    omega),h]
  .subst c;have h:=i;have o:=j;subst h;subst o;exact zh p q (by decide)<|by decide
 rw[VF hk];unfold Lib.compareInt;repeat' split
 all_goals first|rfl|omega
def Nat.c(x:Nat):Nat.Coprime 2 x↔x % 2=1:=by unfold Nat.Coprime;rw[Nat.gcd_rec];obtain e|e:=Yl x<;>rw[e]<;>simp
def g_(a b:Int):Int×Bool:=
 if a=0\/b=0 then (0,true)
 else if a=-9223372036854775808\/b=-9223372036854775808 then (IntKind.i64.wrap<|a*b,decide<|a=1\/b=1)
 else if a.natAbs<=9223372036854775807 / b.natAbs then (a*b,true)
 else (IntKind.i64.wrap ((a.natAbs*b.natAbs:Nat):Int),decide<|IntKind.i64.wrap ((a.natAbs*b.natAbs:Nat):Int)=-9223372036854775808/\a.natAbs=4611686018427387904 / b.natAbs*2/\4611686018427387904 % b.natAbs=0/\(a<0)≠(b<0))
def I7(h:n*k=9223372036854775808)(i:k<=9223372036854775807):n=4611686018427387904 / k*2/\4611686018427387904 % k=0:=by
 have a:0<k:=by
  obtain e|e:=Nat.eq_zero_or_pos k
  .rw[e]at h;simp at h
  exact e
 have g:n % 2=0:=by
  obtain e|e:=Yl n
  .exact e
  exfalso;have d:Nat.Coprime n<|2 ^ 63:=by apply Nat.Coprime.pow_right;rw[Nat.coprime_comm];exact(Nat.c n).2 e
  have af:n ∣2 ^ 63:=⟨k,h.symm⟩;have c:n=1:=Nat.Coprime.eq_one_of_dvd d af;subst c;omega
 obtain⟨z,rfl⟩:∃z,n=2*z:=⟨n / 2,by omega⟩;have b:z*k=4611686018427387904:=by
  have:2*(z*k)=9223372036854775808:=by rw[<-XG];exact h
  omega
 constructor
 .rw[<-b,Nat.mul_div_cancel _ a];omega
 rw[<-b,Nat.mul_mod_left]
def vY(a:Int):(a=(a.natAbs:Int)/\0<=a)\/(a=-(a.natAbs:Int)/\a<0):=by omega
def Ek(a b:Int):(a*b=((a.natAbs*b.natAbs:Nat):Int)/\((0<=a/\0<=b)\/(a<0/\b<0)))\/(a*b=-((a.natAbs*b.natAbs:Nat):Int)/\((0<=a/\b<0)\/(a<0/\0<=b))):=by
 obtain⟨c,d⟩|⟨c,d⟩:=vY a<;>obtain⟨e,g⟩|⟨e,g⟩:=vY b
 .left;refine⟨?_,.inl ⟨d,g⟩⟩;conv=>lhs;rw[c,e]
  simp
 .right;refine⟨?_,.inl ⟨d,g⟩⟩;conv=>lhs;rw[c,e]
  simp[Int.mul_neg]
 .right;refine⟨?_,.inr ⟨d,g⟩⟩;conv=>lhs;rw[c,e]
  simp[Int.neg_mul]
 left;refine⟨?_,.inr ⟨d,g⟩⟩;conv=>lhs;rw[c,e]
 rw[Int.neg_mul_neg];simp
def fk(h:bK a):IntKind.i64.wrap a=a:=by unfold bK at h;rw[WT];omega
def xQ(j:bK a)(l:bK M):(bK (a*M)->g_ a M=(a*M,true))/\(¬bK (a*M)->(g_ a M).2=false):=by
 unfold g_;by_cases b:a=0\/M=0
 .rw[VG b];have e:a*M=0:=by obtain rfl|rfl:=b<;>simp
  rw[e];exact⟨λ_=>rfl,λh=>absurd (by unfold bK;omega) h⟩
 rw[VF b];have k:a≠0:=λe=>b<|.inl e;have n:M≠0:=λe=>b<|.inr e;by_cases c:a=-9223372036854775808\/M=-9223372036854775808
 ·rw [VG c];have key:bK (a*M)↔(a=1\/M=1):=by
   unfold bK at*;obtain rfl|rfl:=c
   .omega
   omega
  refine⟨λh=>?_,λh=>?_⟩
  .rw[fk h];simp[key.1 h]
  simp only;exact Xd λe=>h<|key.2 e
 rw[VF c];have o:a≠-9223372036854775808:=λe=>c<|.inl e;have p:M≠-9223372036854775808:=λe=>c<|.inr e;have z:a.natAbs<=9223372036854775807:=by unfold bK at j;omega
 have t:M.natAbs<=9223372036854775807:=by unfold bK at l;omega
 have g:0<M.natAbs:=by omega
 have x:=Ek a M;by_cases af:a.natAbs<=9223372036854775807 / M.natAbs
 .rw[VG af];have d:a.natAbs*M.natAbs<=9223372036854775807:=(YE g).1 af;exact⟨λ_=>rfl,λh=>absurd (by unfold bK;omega) h⟩
 rw[VF af];have y:¬a.natAbs*M.natAbs<=9223372036854775807:=λh=>af<|(YE g).2 h;refine⟨λh=>?_,λh=>?_⟩
 .have d:a.natAbs*M.natAbs=9223372036854775808:=by unfold bK at h;omega
  have i:(a<0)≠(M<0):=λe=>by
   have w:a<0↔M<0:=by rw[e]
   unfold bK at h;omega
  obtain⟨r,u⟩:=I7 d t;have q:IntKind.i64.wrap ((9223372036854775808:Nat):Int)=-9223372036854775808:=by rw[WT];rfl
  rw[d,q];refine Prod.ext ?_ ?_
  .show(-9223372036854775808:Int)=a*M;unfold bK at h;omega
  exact Xy ⟨rfl,r,u,i⟩
 simp only;refine Xd ?_;rintro⟨_,u,w,d⟩;have r:a.natAbs*M.natAbs=9223372036854775808:=by
  have i:=Nat.div_add_mod 4611686018427387904 M.natAbs;rw[w,Ye]at i;rw[u];generalize 4611686018427387904 / M.natAbs=q at*;have:q*2*M.natAbs=2*(M.natAbs*q):=by rw[Xg q 2,XG,Xg q]
  omega
 apply h;unfold bK;by_cases hs:a<0
 .have i:¬M<0:=λe=>d (by simp[hs,e]);omega
 have i:M<0:=by
  obtain e|e:=Int.lt_or_le M 0
  .exact e
  exact absurd (by simp[hs,show ¬M<0 by omega]) d
 omega
def dX:aA->Prop
 |.nil=>True
 |.node _ _ p l r=>(p.op<=5->r=.nil)/\dX l/\dX r
def fS(p:bg):Prop:=∀ts x r,p ts=some (x,r)->dX x
def BM(c:6<=n)(a:dX R)(b:dX S):dX<|kL n R S:=⟨λh=>absurd (show n<=5 from h)<|by omega,a,b⟩
def vI(a:dX R):dX<|ir n R:=⟨λ_=>rfl,a,trivial⟩
def Ju{s:YX}:dX<|fR a M s:=⟨λ_=>rfl,trivial,trivial⟩
def GW:dX<|eB X Y:=⟨λ_=>rfl,trivial,trivial⟩
def wj{a:bg}{d:Nat->Option Nat}(c:fS a)(b:∀k o,d k=some o->6<=o/\o<=18):∀(f:Nat)(x:aA)(e:YV)(y:aA)(r:YV),dX x->ew a d f x e=some (y,r)->dX y
 |0,_,_,_,_,_,h=>by simp[ew]at h
 |f+1,x,e,y,r,hx,h=>by
  unfold ew at h;split at h
  .simp at h;obtain⟨rfl,rfl⟩:=h;exact hx
  rename_i o g;split at h
  .cases h
  rename_i z j i;exact wj c b f _ _ _ _ (BM (b _ _ g).1 hx<|c _ _ _ i) h
def lO{a:bg}{d:Nat->Option Nat}(c:fS a)(b:∀k o,d k=some o->6<=o/\o<=18):fS<|du a d:=by
 intro i x r h;unfold du at h;split at h
 .cases h
 rename_i y g e;exact wj c b _ _ _ _ _ (c _ _ _ e) h
def CE{a:bg}(b:fS a):fS<|dw a:=by
 intro e x r h;unfold dw at h;split at h
 .split at h
  .cases h
  rename_i y d c;split at h
  .simp at h;obtain⟨rfl,rfl⟩:=h;exact b _ _ _ c
  cases h
 repeat' (split at h)
 all_goals first
  |(cases h;done)
  |(simp at h;obtain⟨rfl,rfl⟩:=h;first|exact Ju|exact GW)
def CC{b a:bg}(c:fS b)(d:fS a):fS<|gN b a:=by
 intro i x r h;unfold gN at h;split at h
 .split at h
  .cases h
  rename_i z g e;simp at h;obtain⟨rfl,rfl⟩:=h;exact vI<|c _ _ _ e
 exact d _ _ _ h
def Lq(a:dX R)(h:jJ R D=some (S,E)):dX S:=by
 unfold jJ at h;repeat' (split at h)
 all_goals first
  |(cases h;done)
  |(simp at h;obtain⟨rfl,rfl⟩:=h;exact vI a)
def Fy{a:bg}(c:fS a):fS<|fD a:=by
 intro k x r h;unfold fD at h;split at h
 .cases h
 rename_i y i e;have b:=c _ _ _ e;split at h
 .rename_i o d;split at h
  .cases h
  rename_i z j g;simp at h;obtain⟨rfl,rfl⟩:=h;exact BM (yP d).1 b<|c _ _ _ g
 split at h
 .exact Lq b h
 simp at h;obtain⟨rfl,rfl⟩:=h;exact b
def LA{b a:bg}(c:fS b)(d:fS a):fS<|mD b a:=by
 intro i x r h;unfold mD at h;split at h
 .split at h
  .cases h
  rename_i z g e;simp at h;obtain⟨rfl,rfl⟩:=h;exact vI<|c _ _ _ e
 exact d _ _ _ h
def Lw:∀k,fS (iw k).value/\fS (iw k).c/\fS (iw k).signed:=by
 have fU:∀v:dU,fS v.val->fS v.no->fS v.a->fS v.value/\fS v.c/\fS v.signed:=by intro v a b c;have e:fS v.signed:=CC c<|CE a;have f:fS v.prod:=lO e xA;have g:fS v.sum:=lO f zv;have i:fS v.comp:=Fy g;have j:fS v.c:=LA b i;have l:fS v.both:=lO j yJ;have m:fS v.value:=lO l Bs;exact⟨m,j,e⟩
 intro k
 induction k with
 |zero=>exact fU _ (by intro _ _ _ h;cases h) (by intro _ _ _ h;cases h) (by intro _ _ _ h;cases h)
 |succ k ih=>exact fU _ ih.1 ih.2.1 ih.2.2
def mG:fS<|eo 20:=(Lw 20).1
def U4:YX:=[102,105,118,101]
def xC:∀s:YX,(cT s).length<=2*s.length
 |[]=>by simp[cT]
 |c::s=>by have:=xC s;unfold cT;split<;>simp<;>omega
def p7(p:h_):Prop:=∀ts x r,p ts=some (x,r)->dX x.aW
def fX(l:Y3):Prop:=∀i∈l,dX i.aW
def fX.nil:fX []:=λi h=>by cases h
def fX.snoc{l:Y3}{x:ay}(h:fX l)(b:dX x.aW):fX<|l++[x]:=λi hi=>by
 obtain a|a:=V1.1 hi
 .exact h i a
 simp at a;subst a;exact b
def y9{p:h_}(c:p7 p):∀(f:Nat)(a:Y3)(b:YV)(l:Y3)(r:YV),fX a->dW p f a b=some (l,r)->fX l
 |0,_,_,_,_,_,h=>by simp[dW]at h
 |f+1,a,b,l,r,ha,h=>by
  unfold dW at h;cases hz:p b with
  |none=>rw[hz]at h;cases h
  |some z=>
   obtain⟨x,e⟩:=z;rw[hz]at h;simp only at h;have d:=c _ _ _ hz;split at h
   .exact y9 c f _ _ _ _ (ha.snoc d) h
   cases h;exact ha.snoc d
def mL{p:h_}(a:p7 p){l:Y3}(h:bR p D=some (l,E)):fX l:=y9 a _ _ _ _ _ fX.nil h
def uk:p7 dc:=by
 intro c x r h;unfold dc at h;split at h
 .cases h
 rename_i y b a;cases h;exact mG _ _ _ a
def Cj:p7 dL:=by
 intro a x r h;unfold dL at h;split at h
 .split at h
  .cases h
  cases h;trivial
 cases h
def FT:p7 fh:=by
 intro c x r h;unfold fh at h;split at h
 .split at h
  .split at h
   .cases h
   rename_i y b a;cases h;exact mG _ _ _ a
  cases h
 cases h
def FR:p7 gd:=by
 intro c x r h;unfold gd at h;split at h
 .cases h
 rename_i y b a;split at h
 .cases h;exact mG _ _ _ a
 cases h;exact mG _ _ _ a
def A8:p7 cg:=by
 intro a x r h;unfold cg at h;repeat' (split at h)
 all_goals first
  |(cases h;done)
  |(cases h;trivial)
def wU(left:Bool):p7<|dE left:=by
 intro c x r h;unfold dE at h;split at h
 .cases h
 split at h
 .split at h
  .cases h
  rename_i y b a;cases h;exact mG _ _ _ a
 cases h
def qq:∀(f:Nat)(a:Y3)(b:YV)(l:Y3)(r:YV),fX a->dJ f a b=some (l,r)->fX l
 |0,_,_,_,_,_,h=>by simp[dJ]at h
 |f+1,a,b,l,r,ha,h=>by
  unfold dJ at h;split at h
  .split at h
   .cases hz:dE true b.tail.tail with
    |none=>rw[hz]at h;cases h
    |some z=>rw[hz]at h;exact qq f _ _ _ _ (ha.snoc<|wU true _ z.1 z.2 hz) h
   cases h
  split at h
  .cases hz:dE false b.tail with
   |none=>rw[hz]at h;cases h
   |some z=>rw[hz]at h;exact qq f _ _ _ _ (ha.snoc<|wU false _ z.1 z.2 hz) h
  cases h;exact ha
def BQ{l:Y3}(h:dn D=some (l,E)):fX l:=by
 unfold dn at h;split at h
 .cases h
 rename_i b c a;exact qq _ _ _ _ _ (λi hi=>by simp at hi;subst hi;exact A8 _ _ _ a) h
def re(h:bX D=some (R,E)):dX R:=by
 unfold bX at h;split at h
 .exact mG _ _ _ h
 cases h;trivial
structure DS(s:aX):Prop where
 c:fX s.c
 b:fX s.b
 d:dX s.d
 e:fX s.e
def F7{l:Y3}(h:eT D=some (l,E)):fX l:=by
 unfold eT at h;split at h
 .split at h
  .exact mL FR h
  cases h
 cases h;exact fX.nil
def zg{p:h_}(a:p7 p){l:Y3}(h:fK p D=some (l,E)):fX l:=by
 unfold fK at h;split at h
 .split at h
  .cases h
  rename_i c d b;split at h
  .cases h;exact mL a b
  cases h
 cases h
def Et{s:aX}(h:ck D=some (s,E)):DS s:=by
 unfold ck at h;cases hz:eZ (gF D)with
 |none=>rw[hz]at h;cases h
 |some z=>
  obtain⟨⟨al,aD⟩,b⟩:=z;rw[hz]at h;simp only at h;have hi:fX aD:=by
   unfold eZ at hz;split at hz
   .cases hz;exact fX.nil
   split at hz
   .cases hz
   rename_i c d a;cases hz;exact mL uk a
  unfold kA at h;split at h
  .cases hs:dn b.tail with
   |none=>rw[hs]at h;cases h
   |some y=>
    obtain⟨bl,a⟩:=y;rw[hs]at h;unfold mC at h;simp only at h;split at h
    .cases h
    unfold kR at h;cases hw:bX a with
    |none=>rw[hw]at h;cases h
    |some wz=>
     obtain⟨e,c⟩:=wz;rw[hw]at h;unfold nO at h;simp only at h;cases hk:eT c with
     |none=>rw[hk]at h;cases h
     |some kz=>
      obtain⟨ks,d⟩:=kz;rw[hk]at h;unfold mE ik at h;simp only at h;split at h
      .cases h
      cases h;exact⟨hi,BQ hs,re hw,F7 hk⟩
  cases h
def nH{s:aX}(h:bp X=some s):DS s:=by
 unfold bp at h;split at h
 .cases h
 unfold kK at h;split at h
 .cases h
 rename_i z d;split at h
 .cases h;obtain⟨s,r⟩:=z;have a:aJ (de X)=some (s,r):=d;show DS s;unfold aJ at a;split at a
  .unfold dB at a;repeat' (split at a)
   all_goals first
    |(cases a;done)
    |(rename_i c e b _;cases a;exact⟨zg Cj b,fX.nil,trivial,fX.nil⟩)
  split at a
  .unfold dP at a;repeat' (split at a)
   all_goals first
    |(cases a;done)
    |(rename_i c e b;cases a;exact⟨zg uk b,fX.nil,trivial,fX.nil⟩)
  split at a
  .unfold ez at a;repeat' (split at a)
   all_goals first
    |(cases a;done)
    |(rename_i c e b;cases a;exact⟨fX.nil,fX.nil,re b,fX.nil⟩)
  split at a
  .unfold eA at a;repeat' (split at a)
   all_goals first
    |(cases a;done)
    |(rename_i e g b _ j i c;cases a;exact⟨mL FT b,fX.nil,re c,fX.nil⟩)
  split at a
  .exact Et a
  cases a
 cases h
def pU{α:Type}(l:List α)(i j:Nat):List α:=
 match l[i]?,l[j]? with
 |some x,some y=>(l.set i y).set j x
 |_,_=>l
def jY{α:Type}(l:List α)(a b:Nat):Nat->List α
 |0=>l
 |n+1=>jY (pU l a b) (a+1) (b+1) n
def Hi{α:Type}(A B C:List α)(x y:α):pU (A++x::(B++y::C)) A.length (A.length+1+B.length)=A++y::(B++x::C):=by
 have a:(A++x::(B++y::C))[A.length]?=some x:=by simp
 have b:(A++x::(B++y::C))[A.length+1+B.length]?=some y:=by rw[VW<|by omega,show A.length+1+B.length-A.length=B.length+1 by omega,Xv];simp
 unfold pU;rw[a,b];show((A++x::(B++y::C)).set A.length y).set (A.length+1+B.length) x=_;rw[Ws _ _<|VR _,XL,XA,Ws _ _<|by omega,show A.length+1+B.length-A.length=B.length+1 by omega,Yh,Ws _ _<|VR _,XL,XA]
def tK{α:Type}:∀(X Y bg M S:List α),X.length=Y.length->jY (bg++(X++(M++(Y++S)))) bg.length (bg.length+X.length+M.length) X.length=bg++(Y++(M++(X++S)))
 |[],[],bg,M,S,_=>by simp[jY]
 |x::X,y::Y,bg,M,S,h=>by
  have c:X.length=Y.length:=by simpa using h
  have a:=Hi bg (X++M) (Y++S) x y;have b:=tK X Y (bg++[y]) (M++[x]) S c;simp only[VH,Wk,WR,Wh,WU,Wz,XC]at a b ⊢;rw[jY,show bg.length+(X.length+1)+M.length=bg.length+1+(X.length+M.length) by omega,a,<-b]
  congr 1
  omega
 |[],_::_,_,_,_,h=>by simp at h
 |_::_,[],_,_,_,h=>by simp at h
def gS{α:Type}(aA:List α)(m i j:Nat)(l:List α):Prop:=
 ∃bg X Y S:List α,l=bg++(X++(Y++S))/\X.length=i/\Y.length=j/\bg.length+i=m/\aA=bg++(Y++(X++S))
def Ew{α:Type}{e:List α}{m:Nat}{l:List α}(h:gS e m i j l)(k:j<i):gS e m (i-j) j<|jY l (m-i) m j:=by
 obtain⟨bg,X,Y,S,rfl,g,o,n,rfl⟩:=h;have b:X=X.take j++X.drop j:=(WA j X).symm;have a:(X.take j).length=j:=by rw[Wl];omega
 have af:(X.drop j).length=i-j:=by rw[Wp,g]
 generalize X.take j=c at b a;generalize X.drop j=d at b af;subst b;have h:=tK c Y bg d S (by omega);rw[a,af,show bg.length+j+(i-j)=m by omega]at h;refine⟨bg++Y,d,c,S,?_,af,a,by rw[VH];omega,by simp⟩;rw[show m-i=bg.length by omega,Wh,h];simp
def Cz{α:Type}{e:List α}{m:Nat}{l:List α}(h:gS e m i j l)(o:i<j):gS e m i (j-i)<|jY l (m-i) (m+j-i) i:=by
 obtain⟨bg,X,Y,S,rfl,k,n,g,rfl⟩:=h;have c:Y=Y.take (j-i)++Y.drop (j-i):=(WA (j-i) Y).symm;have b:(Y.take<|j-i).length=j-i:=by rw[Wl];omega
 have af:(Y.drop<|j-i).length=i:=by rw[Wp,n];omega
 generalize Y.take (j-i)=a at c b;generalize Y.drop (j-i)=d at c af;subst c;have h:=tK X d bg a S (by omega);rw[k,b,show bg.length+i+(j-i)=m+j-i by omega]at h;refine⟨bg,d,a,X++S,?_,af,b,g,by simp⟩;rw[show m-i=bg.length by omega,Wh a,h]
def GI{α:Type}{a:List α}{m:Nat}{l:List α}(h:gS a m i i l):jY l (m-i) m i=a:=by obtain⟨bg,X,Y,S,rfl,c,d,b,rfl⟩:=h;have h:=tK X Y bg [] S (by omega);simp only[Wz,WR,Ye]at h;rw[c,b]at h;rw[show m-i=bg.length by omega,h]
def oP{α:Type}{c:α->α->Bool}(e:jC c){y:α}{B:List α}(h:(y::B).Pairwise λa b=>c a b=true){z:α}(g:z∈y::B):c y z=true:=by
 obtain rfl|d:=V8.1 g
 .exact e.refl _
 exact(WZ.1 h).1 z d
def qw{α:Type}{d:α->α->Bool}(e:jC d){x:α}{A:List α}(h:(A++[x]).Pairwise λa b=>d a b=true){z:α}(g:z∈A++[x]):d z x=true:=by
 obtain c|c:=V1.1 g
 .exact(WE.1 h).2.2 z c x (by simp)
 rw[Yg]at c;subst c;exact e.refl _
def qQ{α:Type}{l:List α}{z:α}(h:z∈l):∃A x,l=A++[x]:=by
 have a:l≠[]:=by rintro rfl;cases h
 exact⟨l.dropLast,l.getLast a,(List.dropLast_concat_getLast a).symm⟩
def EH{α:Type}{e:α->α->Bool}(g:jC e){j h k i:List α}(t:(j++h).Pairwise λa b=>e a b=true)(u:(k++i).Pairwise λa b=>e a b=true)
 (q:∀A x y B,j=A++[x]->i=y::B->e x y=true) (r:∀x B A y,h=x::B->k=A++[y]->e x y=false):eS e (j++h) (k++i)=eS e j k++eS e h i:=by
 obtain⟨l,n,_⟩:=WE.1 t;obtain⟨o,p,_⟩:=WE.1 u;refine jH j k h i (λx c y d=>?_) λy d x c=>?_
 .obtain⟨A,w,rfl⟩:=qQ c;cases i with
  |nil=>cases d
  |cons z B=>exact g.trans _ _ _ (qw g l c)<|g.trans _ _ _ (q A w z B rfl rfl)<|oP g p d
 .obtain⟨A,z,rfl⟩:=qQ d;cases h with
  |nil=>cases c
  |cons w B=>
   cases hc:e x y with
   |false=>rfl
   |true=>
    have:=r w B A z rfl rfl;rw[g.trans _ _ _ (oP g n c)<|g.trans _ _ _ hc<|qw g o d]at this;cases this
def iI{α:Type}(l:List α)(k:Nat)(h:k<=l.length):∃A B,l=A++B/\A.length=k/\B.length=l.length-k:=
 ⟨l.take k,l.drop k,(WA k l).symm,by rw[Wl];omega,by rw[Wp]⟩
def ee{α:Type}(le:α->α->Bool)(l:List α)(a m b:Nat):List α:=l.take a++(eS le ((l.drop a).take<|m-a) ((l.drop m).take<|b-m)++l.drop b)
def gm{α:Type}(l:List α)(a m b:Nat):List α:=l.take a++((l.drop m).take (b-m)++((l.drop a).take (m-a)++l.drop b))
def jA{α:Type}(c X Y S:List α){a m b:Nat}(d:c.length=a)(g:a+X.length=m)(e:m+Y.length=b):
 (c++(X++(Y++S))).take a=c/\((c++(X++(Y++S))).drop a).take (m-a)=X/\((c++(X++(Y++S))).drop m).take (b-m)=Y/\(c++(X++(Y++S))).drop b=S:=by
 subst d g e;refine⟨Yj,?_,?_,?_⟩
 .rw[YH,Xx,Yj]
 .rw[<-Wh,<-VH,YH,Xx,Yj]
 .rw[<-Wh,<-Wh,<-VH,<-VH,YH]
def iQ{α:Type}(b:α->α->Bool)(a X Y S:List α){m:Nat}(h:a.length=n)(j:n+X.length=m)(i:m+Y.length=k):ee b (a++(X++(Y++S))) n m k=a++(eS b X Y++S):=by obtain⟨c,d,e,g⟩:=jA a X Y S h j i;rw[ee,c,d,e,g]
def jK{α:Type}(a X Y S:List α){m:Nat}(g:a.length=n)(i:n+X.length=m)(h:m+Y.length=k):gm (a++(X++(Y++S))) n m k=a++(Y++(X++S)):=by obtain⟨b,c,d,e⟩:=jA a X Y S g i h;rw[gm,b,c,d,e]
def Hj{α:Type}{g:α->α->Bool}(D:jC g){l:List α}{s m e:Nat}(P:n<=s)(Q:s<=m)(R:m<=e)(T:e<=k)(U:k<=l.length)
 (u:((l.drop n).take<|m-n).Pairwise λn k=>g n k=true) (w:((l.drop m).take<|k-m).Pairwise λn k=>g n k=true)
 (C:∀x y,n<s->e<k->l[s-1]?=some x->l[e]?=some y->g x y=true)(E:∀x y,s<m->m<e->l[s]?=some x->l[e-1]?=some y->g x y=false):
 ee g (ee g (gm l s m e) n s<|s+e-m) (s+e-m) e k=ee g l n m k:=by
 obtain⟨bg,L,rfl,j,F⟩:=iI l n (by omega);obtain⟨a,M,rfl,o,G⟩:=iI L (s-n) (by omega);obtain⟨b,N,rfl,p,H⟩:=iI M (m-s) (by omega);obtain⟨c,O,rfl,q,I⟩:=iI N (e-m) (by omega);obtain⟨d,S,rfl,r,V⟩:=iI O (k-e) (by omega);have h:bg++(a++(b++(c++(d++S))))=bg++((a++b)++((c++d)++S)):=by simp
 have z:bg++(a++(b++(c++(d++S))))=(bg++a)++(b++(c++(d++S))):=by simp
 obtain⟨_,J,K,_⟩:=jA bg (a++b) (c++d) S (a:=n) (m:=m) (b:=k) j (by rw[VH];omega) (by rw[VH];omega);rw[h,J]at u;rw[h,K]at w
 have t:=EH D u w (λA x y B i hB=>by
  subst i hB;simp only[VH,Wk,WR]at o r;refine C x y (by omega) (by omega) ?_ ?_
  .rw[show bg++(A++[x]++(b++(c++(y::B++S))))=(bg++A)++x::(b++(c++(y::B++S))) by simp,show s-1=(bg++A).length by rw[VH];omega];simp
  ·rw [show bg++(A++[x]++(b++(c++(y :: B++S))))=(bg++(A++[x]++(b++c)))++y :: (B++S) by simp,show e=(bg++(A++[x]++(b++c))).length by simp only [VH,Wk,WR];omega];simp) (λx B A y hB i=>by
  subst i hB;simp only[VH,Wk,WR]at p q;refine E x y (by omega) (by omega) ?_ ?_
  .rw[show bg++(a++(x::B++(A++[y]++(d++S))))=(bg++a)++x::(B++(A++[y]++(d++S))) by simp,show s=(bg++a).length by rw[VH];omega];simp
  .rw[show bg++(a++(x::B++(A++[y]++(d++S))))=(bg++(a++(x::B++A)))++y::(d++S) by simp,show e-1=(bg++(a++(x::B++A))).length by simp only[VH,Wk];omega]
   simp)
 rw[h,iQ g bg (a++b) (c++d) S j (by rw[VH];omega) (by rw[VH];omega),<-h,z,jK (bg++a) b c (d++S) (by rw[VH];omega) (by omega)<|by omega];rw[Wh,iQ g bg a c (b++(d++S)) j (by omega)<|by omega];rw[<-Wh bg,iQ g (bg++eS g a c) b d S (by rw[VH,mA];omega) (by omega)<|by omega,t];simp
def oO{α:Type}(l:List α){m:Nat}(g:n<=m)(h:m<=k)(i:k<=l.length):∃bg X Y S,l=bg++(X++(Y++S))/\bg.length=n/\n+X.length=m/\m+Y.length=k:=by obtain⟨bg,d,rfl,a,b⟩:=iI l n (by omega);obtain⟨X,e,rfl,j,c⟩:=iI d (m-n) (by omega);obtain⟨Y,S,rfl,o,_⟩:=iI e (k-m) (by omega);exact⟨bg,X,Y,S,rfl,a,by omega,by omega⟩
def pw{α:Type}{l:List α}{a m b:Nat}(c:a<=m)(d:m<=b)(e:b<=l.length):gS (gm l a m b) m (m-a) (b-m) l:=by obtain⟨bg,X,Y,S,rfl,g,h,i⟩:=oO l c d e;exact⟨bg,X,Y,S,rfl,by omega,by omega,by omega,jK bg X Y S g h i⟩
def Cy{α:Type}{l:List α}{m:Nat}(a:n<=m)(b:m<=k)(c:k<=l.length)(h:¬(n<m/\m<k)):gm l n m k=l:=by
 obtain⟨bg,X,Y,S,rfl,d,e,g⟩:=oO l a b c;rw[jK bg X Y S d e g];obtain i|i:=Wx n m
 .have:Y=[]:=WW (by omega);subst this;simp
 have:X=[]:=WW (by omega);subst this;simp
def uz{α:Type}{a:α->α->Bool}{l:List α}{m:Nat}(b:n<=m)(c:m<=k)(d:k<=l.length)(h:¬(n<m/\m<k)):ee a l n m k=l:=by
 obtain⟨bg,X,Y,S,rfl,e,g,i⟩:=oO l b c d;rw[iQ a bg X Y S e g i];obtain j|j:=Wx n m
 .have:Y=[]:=WW (by omega);subst this;rw[iR];simp
 have:X=[]:=WW (by omega);subst this;rw[hJ];simp
def Eu{α:Type}{l:List α}{m:Nat}(a:n<=m)(b:m<=k)(c:k<=l.length):(gm l n m k).length=l.length:=by obtain⟨bg,X,Y,S,rfl,d,e,g⟩:=oO l a b c;rw[jK bg X Y S d e g];simp only[VH];omega
def Ei{α:Type}{a:α->α->Bool}{l:List α}{m:Nat}(b:n<=m)(c:m<=k)(d:k<=l.length):(ee a l n m k).length=l.length:=by obtain⟨bg,X,Y,S,rfl,e,g,h⟩:=oO l b c d;rw[iQ a bg X Y S e g h];simp only[VH,mA];omega
def Jm{α:Type}{a:List α}{l:List α}(h:gS a (k+1) 1 (j+1) l):gS a (k+2) 1 j<|pU l k<|k+1:=by
 obtain⟨bg,X,Y,S,rfl,c,b,d,rfl⟩:=h;obtain⟨x,rfl⟩:=Xz.1 c;cases Y with
 |nil=>simp at b
 |cons y Y=>
  obtain rfl:bg.length=k:=by omega
  have:=Hi bg [] (Y++S) x y;exact⟨bg++[y],[x],Y,S,by simpa using this,rfl,by simpa using b,by simp,by simp⟩
def Ev{α:Type}{b:List α}{l:List α}(h:gS b (k+1) (i+1) 1 l):gS b k i 1<|pU l (k+1) k:=by
 obtain⟨bg,X,Y,S,rfl,a,g,j,rfl⟩:=h;obtain⟨y,rfl⟩:=Xz.1 g;obtain⟨X,x,rfl⟩:∃A x,X=A++[x]:=by
  obtain h|⟨A,x,h⟩:=YD X
  .subst h;simp at a
  exact⟨A,x,by simpa using h⟩
 obtain rfl:(bg++X).length=k:=by simp at a ⊢;omega
 have e:bg++(X++[x]++([y]++S))=(bg++X)++x::y::S:=by simp
 have c:((bg++X)++x::y::S)[(bg++X).length]?=some x:=by simp
 have d:((bg++X)++x::y::S)[(bg++X).length+1]?=some y:=by rw[VW<|by omega];simp
 refine⟨bg,X,[y],x::S,?_,by simpa using a,rfl,by simp at a ⊢;omega,by simp⟩;rw[e];unfold pU;rw[c,d];show(((bg++X)++x::y::S).set _ x).set _ y=_;rw[Ws _ _<|by omega,Ws _ _<|by omega,show(bg++X).length+1-(bg++X).length=1 by omega,XL];simp
def xD{α:Type}{a:List α}{m:Nat}{l:List α}(h:gS a m i j l)(b:i=0\/j=0):l=a:=by
 obtain⟨bg,X,Y,S,rfl,c,d,e,rfl⟩:=h;obtain rfl|rfl:=b
 .obtain rfl:=V3.1 c;simp
 obtain rfl:=V3.1 d;simp
def D3{α:Type}{b:α->α->Bool}(d:jC b){l:List α}{x:α}(G:n+1<=i)(H:i<=k)(j:k<=l.length)(C:((l.drop<|n+1).take<|k-(n+1)).Pairwise λn k=>b n k=true)(D:l[n]?=some x)
 (E:∀y,n+1<i->l[i-1]?=some y->b x y=false) (F:∀y,i<k->l[i]?=some y->b x y=true):ee b l n (n+1) k=gm l n (n+1) i:=by
 obtain⟨bg,X,r,S,rfl,c,h,o⟩:=oO l (Xn n) (by omega) j;obtain⟨a,rfl⟩:=Xz.1 (show X.length=1 by omega);obtain rfl:a=x:=by rw[<-c]at D;simpa using D
 obtain⟨p,q,rfl,z,I⟩:=iI r (i-(n+1)) (by omega);obtain⟨_,_,J,_⟩:=jA bg [a] (p++q) S c h o;rw[J]at C;obtain⟨t,u,_⟩:=WE.1 C;have e:bg++([a]++(p++q++S))=bg++([a]++(p++(q++S))):=by simp
 rw[iQ b bg [a] (p++q) S c h o,Ej ?_ ?_,e,jK bg [a] p (q++S) c h<|by omega]
 .simp
 .intro y B;obtain⟨A,g,rfl⟩:=qQ B
  have w:b a g=false:=E g (by simp at z;omega) (by
   rw[show bg++([a]++(A++[g]++q++S))=(bg++([a]++A))++g::(q++S) by simp,show i-1=(bg++([a]++A)).length by simp at z ⊢;omega]
   simp)
  cases hc:b a y with
  |false=>rfl
  |true=>rw[d.trans _ _ _ hc<|qw d t B]at w;cases w
 .intro y w;cases q with
  |nil=>cases w
  |cons g B=>
   refine d.trans _ _ _ (F g (by simp at o I;omega) ?_)<|oP d u w;rw[show bg++([a]++(p++g::B++S))=(bg++([a]++p))++g::(B++S) by simp,show i=(bg++([a]++p)).length by simp;omega];simp
def Gg{α:Type}{c:α->α->Bool}(d:jC c){l:List α}{m:Nat}{x:α}(G:n<=i)(H:i<=m)(k:m+1<=l.length)(C:((l.drop n).take<|m-n).Pairwise λn b=>c n b=true)(D:l[m]?=some x)
 (E:∀y,n<i->l[i-1]?=some y->c y x=true) (F:∀y,i<m->l[i]?=some y->c y x=false):ee c l n m (m+1)=gm l i m (m+1):=by
 obtain⟨bg,r,Y,S,rfl,u,g,j⟩:=oO l (show n<=m by omega) (Xn m) k;obtain⟨a,rfl⟩:=Xz.1 (show Y.length=1 by omega);obtain rfl:a=x:=by rw[show bg++(r++([a]++S))=(bg++r)++a::S by simp,show m=(bg++r).length by simp;omega]at D;simpa using D
 obtain⟨p,q,rfl,z,I⟩:=iI r (i-n) (by omega);obtain⟨_,J,_,_⟩:=jA bg (p++q) [a] S u g j;rw[J]at C;obtain⟨o,t,_⟩:=WE.1 C;have e:bg++(p++q++([a]++S))=(bg++p)++(q++([a]++S)):=by simp
 rw[iQ c bg (p++q) [a] S u g j,y_ ?_ ?_,e,jK (bg++p) q [a] S (by simp;omega) (by simp at g;omega) j]
 .simp
 .intro y w;obtain⟨A,h,rfl⟩:=qQ w;refine d.trans _ _ _ (qw d o w)<|E h (by simp at z;omega) ?_;rw[show bg++(A++[h]++q++([a]++S))=(bg++A)++h::(q++([a]++S)) by simp,show i-1=(bg++A).length by simp at z ⊢;omega];simp
 .intro y A;cases q with
  |nil=>cases A
  |cons h B=>
   have w:c h a=false:=F h (by simp at g I;omega) (by
    rw[show bg++(p++h::B++([a]++S))=(bg++p)++h::(B++([a]++S)) by simp,show i=(bg++p).length by simp;omega]
    simp)
   cases hc:c y a with
   |false=>rfl
   |true=>rw[d.trans _ _ _ (oP d t A) hc]at w;cases w
def CH{α:Type}{a:α->α->Bool}{l:List α}{s m e:Nat}(L:n<=s)(M:s<=m)(N:m<=e)(O:e<=k)(u:k<=l.length)(K:i+m=s+e)
 (p:((l.drop n).take<|m-n).Pairwise λn k=>a n k=true) (q:((l.drop m).take<|k-m).Pairwise λn k=>a n k=true):
 (((gm l s m e).drop n).take<|s-n).Pairwise (λn k=>a n k=true)/\(((gm l s m e).drop s).take<|i-s).Pairwise (λn k=>a n k=true)/\(((ee a (gm l s m e) n s i).drop i).take<|e-i).Pairwise (λn k=>a n k=true)/\(((ee a (gm l s m e) n s i).drop e).take<|k-e).Pairwise (λn k=>a n k=true):=by
 obtain⟨bg,r,Y,S,rfl,h,o,j⟩:=oO l (show n<=m by omega) (show m<=k by omega) u;obtain⟨_,A,B,_⟩:=jA bg r Y S h o j;rw[A]at p;rw[B]at q;obtain⟨b,c,rfl,w,x⟩:=iI r (s-n) (by omega);obtain⟨d,g,rfl,y,z⟩:=iI Y (e-m) (by omega);obtain⟨G,H,_⟩:=WE.1 p;obtain⟨I,J,_⟩:=WE.1 q;rw[VH]at o j;have t:bg++((b++c)++((d++g)++S))=(bg++b)++(c++(d++(g++S))):=by simp
 rw[t,jK (bg++b) c d (g++S) (by rw[VH];omega) (by omega)<|by omega,Wh];rw[iQ a bg b d (c++(g++S)) h (by omega)<|by omega];obtain⟨_,C,D,_⟩:=jA bg b d (c++(g++S)) (a:=n) (m:=s) (b:=i) h (by omega) (by omega);obtain⟨_,E,F,_⟩:=jA (bg++eS a b d) c g S (a:=i) (m:=e) (b:=k) (by rw[VH,mA];omega) (by omega) (by omega);rw[C,D,<-Wh,E,F];exact⟨G,I,H,J⟩
def fY{α:Type}(l:List α)(k i:Nat):List α:=(l.drop<|i*k).take k
structure nT{α:Type}(le:α->α->Bool)(xs l:List α)(k i:Nat):Prop where
 len:l.length=xs.length
 a:∀j,j<i->fY l k j=bL le (fY xs k j)
def Aw{α:Type}(l:List α)(k i:Nat):(fY l k i).length=min k (l.length-i*k):=by simp[fY]
def yK{α:Type}{l:List α}(h:l.length<=i*k):fY l k i=[]:=by rw[fY,Wo h,List.take_nil]
def yL{α:Type}{l:List α}(h:j<i):fY l k j=fY (l.take<|i*k) k j:=by
 have a:j*k+k<=i*k:=by rw[<-Xp];exact Wy k h
 unfold fY;rw[List.drop_take,XW,XE<|by omega]
def Mg{α:Type}{b:α->α->Bool}{c l M:List α}(h:nT b c l k i)(o:i*k+M.length=n)(e:n<=l.length)(d:M=bL b (fY c k i)):
 nT b c (l.take (i*k)++(M++l.drop n)) k (i+1)/\(l.take (i*k)++(M++l.drop n)).drop n=l.drop n:=by
 have g:(l.take<|i*k).length=i*k:=by rw[Wl];omega
 have q:M.length=min k (l.length-i*k):=by rw[d,iq,Aw,h.len]
 refine⟨⟨?_,λj p=>?_⟩,?_⟩
 .simp only[VH,g,Wp];have:=h.len;omega
 .by_cases a:j<i
  .rw[yL a,WY<|by omega,XW,XB,<-yL a];exact h.a j a
  obtain rfl:j=i:=by omega
  rw[<-d];show((l.take (j*k)++(M++l.drop n)).drop<|j*k).take k=M;rw[Xb<|by omega,Wo<|by omega,Wz];by_cases hk:M.length=k
  .rw[WY<|by omega,VX<|by omega]
  rw[Wo<|by omega,WQ,VX<|by omega]
 .rw[<-Wh,Xb (by simp only[VH];omega),Wo (by simp only[VH];omega),Wz]
def DE{α:Type}{b:α->α->Bool}{a l:List α}(h:nT b a l k i)(d:a.length<=i*k)(j:Nat):nT b a l k j:=
 ⟨h.len,λq _=>by
  by_cases c:q<i
  .exact h.a q c
  .have:i*k<=q*k:=Wy k (by omega)
   rw[yK (by have:=h.len;omega),yK<|by omega];rfl⟩
def Me{α:Type}{b:α->α->Bool}{a l:List α}(h:nT b a l k 1)(c:a.length<=k):l=bL b a:=by have:=h.a 0 (by omega);unfold fY at this;rwa[Yy,WG,WG,VX (by have:=h.len;omega),VX c]at this
def Mf{α:Type}{a:α->α->Bool}(d:jC a){b l:List α}{i c:Nat}(h:∀j,nT a b l k j)(n:c=k\/i*(2*k)+k+c=b.length)(o:c<=k):
 ((l.drop<|i*(2*k)).take k).Pairwise (λx y=>a x y=true)/\((l.drop<|i*(2*k)+k).take c).Pairwise (λx y=>a x y=true)/\eS a ((l.drop<|i*(2*k)).take k) ((l.drop<|i*(2*k)+k).take c)=bL a (fY b (2*k) i):=by
 have e:i*(2*k)=(2*i)*k:=by rw[<-XG,Xg i 2]
 have g:(2*i)*k+k=(2*i+1)*k:=(Xp (2*i) k).symm;have p:(l.drop<|(2*i+1)*k).take c=fY l k (2*i+1):=by
  unfold fY;obtain rfl|n:=n
  .rfl
  rw[VX (by rw[Wp,(h 0).len];omega),VX (by rw[Wp,(h 0).len];omega)]
 have q:fY b (2*k) i=fY b k (2*i)++fY b k (2*i+1):=by unfold fY;rw[e,Nat.two_mul k,List.take_add,Xu,g]
 rw[e,g,p,(h<|2*i+2).a (2*i+1)<|by omega];show(fY l k<|2*i).Pairwise _/\_/\eS a (fY l k<|2*i) _=_;rw[(h<|2*i+2).a (2*i)<|by omega,q,kX d];exact⟨jO d _,jO d _,rfl⟩
def JM{α:Type}{e:α->α->Bool}{a l d:List α}(h:nT e a l (2*k) i)(b:∀j,nT e a d k j)(n:l.drop (i*(2*k))=d.drop (i*(2*k)))(r:a.length<=i*(2*k)+k):nT e a l (2*k)<|i+1:=
 ⟨h.len,λj q=>by
  by_cases c:j<i
  .exact h.a j c
  .obtain rfl:j=i:=by omega
   have g:j*(2*k)=(2*j)*k:=by rw[<-XG,Xg j 2]
   have o:fY l (2*k) j=fY d k (2*j):=by unfold fY;rw[n,<-g,VX (by rw[Wp,(b 0).len];omega),VX (by rw[Wp,(b 0).len];omega)]
   have p:fY a (2*k) j=fY a k (2*j):=by unfold fY;rw[<-g,VX (by rw[Wp];omega),VX (by rw[Wp];omega)]
   rw[o,p,(b<|2*j+1).a (2*j)<|by omega]⟩
def oM(ab:YY):Prop:=ab.Pairwise (λa b=>a.src≠b.src\/a.name≠b.name)/\∀c∈ab,c.src≠[]
def vq{c:ah}(h:c.src≠[])(d:ah):d.is c.src c.name=true↔d.name=c.name/\d.src=c.src:=by simp[ah.is,h]
def ub:∀{ab:YY}{i:Nat}{f:Option Nat},(∀d∈ab,d.is X Y=false)->eF X Y ab i f=f
 |[],i,f,_=>rfl
 |c::cs,i,f,h=>by unfold eF;rw[VF (by rw[h c<|by simp];simp)];exact ub λd af=>h d<|by simp[af]
def wu{c:ah}:∀{ab:YY}{i j:Nat},oM ab->ab[j]?=some c->eF c.src c.name ab i none=some (i+j)
 |[],i,j,_,h=>by simp at h
 |d::cs,i,0,hu,h=>by
  simp at h;subst h;unfold eF;rw[VG<|(vq (hu.2 d<|by simp) d).2 ⟨rfl,rfl⟩];refine ub λe k=>?_;have g:=(WZ.1 hu.1).1 e k;cases l:e.is d.src d.name with
  |false=>rfl
  |true=>
   obtain⟨a,b⟩:=(vq (hu.2 d<|by simp) e).1 l;obtain g|g:=g
   .exact absurd b.symm g
   exact absurd a.symm g
 |d::cs,i,j+1,hu,h=>by
  simp at h;have k:=VY h;have g:=(WZ.1 hu.1).1 c k;unfold eF
  rw [VF (λn=>by
   obtain⟨a,b⟩:=(vq (hu.2 c<|by simp[k]) d).1 n;obtain g|g:=g
   .exact g b
   .exact g a)]
  rw[wu ⟨(WZ.1 hu.1).2,λc l=>hu.2 c<|by simp[l]⟩ h]
  congr 1
  omega
def wt{a:YY}(b:oM a){j:Nat}{c:ah}(h:a[j]?=some c):eE a c.src c.name=some j:=by unfold eE;rw[wu b h];simp
def JG{a:YY}(h:eE a X Y=some i):bD a (eB X Y)=.ok (ft a i):=by unfold eB bD;simp[h]
def Iv{b:YY}{a:YW}(h:eE b X Y=some i):bZ b a (eB X Y)=.ok (a.getD i aE):=by unfold eB bZ;simp[mq,h]
def zq{a:YY}(b:oM a):∀(l pre:YY),pre++l=a->bE a (jq l)=none
 |[],_,_=>rfl
 |c::l,pre,e=>by simp only[jq,We,bE];rw[JG<|wt b (j:=pre.length) (c:=c) (by rw[<-e];simp)];exact zq b l (pre++[c])<|by simpa using e
def zp{d:YY}(g:oM d){row:YW}:∀(l pre:YY)(a b:YW),pre++l=d->b++a=row->b.length=pre.length->a.length=l.length->bH d row (jq l)=.ok a
 |[],_,a,_,_,_,_,h=>by rw[V3.1 h];rfl
 |c::l,pre,[],_,_,_,_,h=>by simp at h
 |c::l,pre,v::a,b,e,er,hw,h=>by simp only[jq,We,bH];rw[Iv<|wt g (j:=pre.length) (c:=c) (by rw[<-e];simp)];have:=zp g l (pre++[c]) a (b++[v]) (by simpa using e) (by simpa using er) (by simp[hw]) (by simpa using h);simp only[jq]at this;rw[this,<-er,<-hw];simp[List.getD]
def xL{a:YY}(b:oM a):∀{rows:List YW},(∀r∈rows,r.length=a.length)->aU a (jq a) rows=.ok rows
 |[],_=>rfl
 |r::rs,h=>by unfold aU;rw[zp b (row:=r) a [] r [] rfl rfl rfl<|h r<|by simp,xL b λq c=>h q<|by simp[c]]
def CA(b:X≠[]){t:bV}(d:ij t):oM<|ax X t:=by
 refine⟨?_,λc a=>?_⟩
 .unfold ax;rw[YS];have:=d.nodup;rw[List.nodup_iff_pairwise_ne,YS]at this;exact this.imp λh=>.inr h
 obtain⟨x,_,rfl⟩:=VV.1 a;exact b
def uK{a:aI}:∀{is:Y4}{aN:Y3}{c:ah},c∈aw a is aN->∃it∈aN,c.src=it.aY
 |[],aN,c,h=>by cases aN<;>simp[aw]at h
 |i::is,[],c,h=>by simp[aw]at h
 |i::is,it::aN,c,h=>by
  simp only[aw,V1]at h;obtain h|h:=h
  .obtain⟨x,_,rfl⟩:=VV.1 h;exact⟨it,by simp,rfl⟩
  obtain⟨x,b,e⟩:=uK h;exact⟨x,by simp[b],e⟩
def uO{c:aI}:∀{aN:Y3}{b:List YX}{is:Y4},bq c b aN=.ok is->∀it∈aN,it.aY ∉ b
 |[],_,_,_,it,h=>by cases h
 |a::aN,b,is,h,it,hi=>by
  unfold bq at h;cases ht:bO c a.name with
  |none=>rw[ht]at h;cases h
  |some i=>
   rw[ht]at h;simp only at h;split at h
   .cases h
   rename_i d;cases hs:bq c (b++[a.aY]) aN with
   |error e=>rw[hs]at h;cases h
   |ok js=>
    obtain rfl|hi:=V8.1 hi
    .simpa using d
    exact λg=>uO hs it hi<|by simp[g]
def oF{d:aI}(k:ec d):∀{aN:Y3}{b:List YX}{is:Y4},bq d b aN=.ok is->(∀i∈aN,i.aY≠[])->oM (aw d is aN)
 |[],_,is,h,_=>by simp[bq]at h;subst h;exact⟨List.Pairwise.nil,λc h=>by cases h⟩
 |a::aN,b,is,h,ho=>by
  unfold bq at h;cases ht:bO d a.name with
  |none=>rw[ht]at h;cases h
  |some i=>
   rw[ht]at h;simp only at h;split at h
   .cases h
   cases hs:bq d (b++[a.aY]) aN with
   |error e=>rw[hs]at h;cases h
   |ok js=>
    rw[hs]at h;cases h;have l:=CA (ho a<|by simp)<|k.2 _<|dS<|cx ht;have n:=oF k hs λx j=>ho x (by simp[j]);refine⟨WE.2 ⟨l.1,n.1,λx j y p=>.inl λe=>?_⟩,λc g=>?_⟩
    .obtain⟨z,_,rfl⟩:=VV.1 j;obtain⟨q,hit,o⟩:=uK p;exact uO hs q hit (by rw[<-o,<-e];simp)
    obtain g|g:=V1.1 g
    .exact l.2 c g
    exact n.2 c g
def Zq:Bool->YX->YX
 |_,[]=>[]
 |q,c::r=>if c=39 then c::Zq (!q) r else if c=10/\q=false then [c]else c::Zq q r
def Zo(t:YX):YX:=Zq false t
def ZB:∀(q:Bool)(t:YX),∃r,t=Zq q t++r
 |_,[]=>⟨[],rfl⟩
 |q,c::t=>by
  rw[Zq];split
  .obtain⟨r,h⟩:=ZB (!q) t;exact⟨r,by rw[WU,<-h]⟩
  split
  .exact⟨t,rfl⟩
  obtain⟨r,h⟩:=ZB q t;exact⟨r,by rw[WU,<-h]⟩
def ZP(t:YX):(Zo t).length<=t.length:=by obtain⟨r,h⟩:=ZB false t;have:=Wd List.length h;simp at this;unfold Zo;omega
def ZA:∀{q:Bool}{t:YX},t≠[]->0<(Zq q t).length
 |_,[],h=>absurd rfl h
 |q,c::t,_=>by
  rw[Zq];split
  .simp
  split<;>simp
def Zp(db:aI)(line:YX):Option aI:=match bp line with
 |none=>none
 |some s=>if s.aC=99 then (if (dk db s).2.err=0 then some (dk db s).1 else none)else if s.aC=105 then (if (dI db s).2.err=0 then some (dI db s).1 else none)else none
def Zx:Nat->aI->YX->Option aI
 |0,db,t=>if t=[]then some db else none
 |f+1,db,t=>if t=[]then some db else match Zp db (Zo t)with
  |none=>none
  |some db'=>Zx f db'<|t.drop (Zo t).length
def aaA(t:YX):Option aI:=match Zx t.length [] t with
 |none=>none
 |some db=>if xG db=t then some db else none
def aaa(l:YX):Prop:=∀rest,Zq false (l++rest)=l++Zq false rest
def aaa.line(h:aaa X)(rest:YX):Zo (X++[10]++rest)=X++[10]:=by unfold Zo;rw[Wh,h];simp[Zq]
def ZI:∀(f g:Nat)(db:aI)(t:YX),t.length<=f->t.length<=g->Zx f db t=Zx g db t
 |0,0,_,_,_,_=>rfl
 |0,g+1,db,t,h,_=>by have:t=[]:=V3.1 (by omega);simp[Zx,this]
 |f+1,0,db,t,_,h=>by have:t=[]:=V3.1 (by omega);simp[Zx,this]
 |f+1,g+1,db,t,h1,h2=>by
  rw[Zx,Zx];split
  .rfl
  rename_i a;cases Zp db (Zo t)with
  |none=>rfl
  |some db'=>
   have:=ZA (q:=false) a;exact ZI f g db' _ (by simp[Zo];omega) (by simp[Zo];omega)
def Zu(db:aI)(t:YX):Option aI:=Zx t.length db t
def Z6(a:aI):Zu a []=some a:=rfl
def ZH{db:aI}(h:X≠[]):Zu db X=match Zp db (Zo X)with
 |none=>none
 |some db'=>Zu db'<|X.drop (Zo X).length:=by
 unfold Zu;obtain⟨n,a⟩:∃n,X.length=n+1:=⟨X.length-1,by have:=YN.2 h;omega⟩;rw[a,Zx,VF h];cases Zp db (Zo X)with
 |none=>rfl
 |some db'=>
  have:=ZA (q:=false) h;exact ZI _ _ db' _ (by simp[Zo];omega)<|by simp
def ZZ{p:UInt8->Bool}(h:p 10=false):∀l:YX,(l++[10]).takeWhile p=l.takeWhile p/\(l++[10]).dropWhile p=l.dropWhile p++[10]
 |[]=>by simp[h]
 |c::l=>by obtain⟨a,b⟩:=ZZ h l;cases hc:p c<;>simp[hc,a,b]
def Z7:∀l:YX,(l++[10]).dropWhile bW=if l.dropWhile bW=[]then []else l.dropWhile bW++[10]
 |[]=>by simp[bW]
 |c::l=>by cases hc:bW c<;>simp[hc,Z7 l]
def ZN:∀a l:YX,((bj a<|l++[10]).1=dF/\(bj a l).1=dF)\/bj a (l++[10])=((bj a l).1,(bj a l).2++[10])
 |a,[]=>by simp[bj]
 |a,[c]=>by by_cases h:c.toNat=39<;>simp[bj,h]
 |a,c::d::r=>by
  by_cases h:c.toNat=39
  .by_cases b:d.toNat=39
   .simpa[bj,h,b]using ZN (a++[c]) r
   simp[bj,h,b]
  simpa[bj,h]using ZN (a++[c]) (d::r)
def aaf(l:YX):(aO<|l++[10]).1=(aO l).1/\((aO l).1.k≠0->(aO l).1.k≠99->(aO<|l++[10]).2=(aO l).2++[10]):=by
 unfold aO;rw[Z7];cases l.dropWhile bW with
 |nil=>simp[cK,jV]
 |cons c r=>
  rw[VF<|by simp];simp only[cK,WU];obtain⟨b,g⟩:=ZZ (p:=dV) (by decide)<|c::r;obtain⟨i,j⟩:=ZZ (p:=aQ) (by decide)<|c::r;rw[WU]at b g i j;split
  .exact⟨by rw[b],λ_ _=>g⟩
  split
  .exact⟨by rw[i],λ_ _=>j⟩
  split
  .obtain⟨d,a⟩|e:=ZN [] r
   .exact⟨by rw[d,a],λ_ h=>absurd (by rw[a];rfl) h⟩
   rw[e];exact⟨rfl,λ_ _=>rfl⟩
  cases r with
  |nil=>
   have:eY c.toNat 10=99:=by simp[eY]
   simp[dq,this]
  |cons d r=>by_cases h:eY c.toNat d.toNat=99<;>simp[dq,h]
def ZY:∀(n:Nat)(l:YX),l.length<n->de (l++[10])=de l
 |0,_,h=>by omega
 |n+1,l,hn=>by
  obtain⟨b,c⟩:=aaf l;rw[gw,gw l,b];split
  .rfl
  split
  .rfl
  rename_i a d;have:=jz l a;rw[c a d,ZY n _<|by omega]
def Z_(h:X.length<600):bp (X++[10])=bp X:=by unfold bp;rw[ZY _ X<|WC _,VF (by simp;omega),VF<|by omega]
