import Derived.Test.YtojdpjpldokjmaaGreatDoorC11
import Derived.Test.YtojdpjpldokjmaaGreatDoorC13
set_option maxHeartbeats 0
set_option maxRecDepth 100000
set_option linter.all false
namespace Go.Proofs.YtojdpjpldokjmaaGreatDoor
open Go.Deep Go.RowKit Tryz
open Go renaming World->Za,Value->Zb,Calls->Zc,TypeId->Zf,Ending->Zg,results->Zh,callFunc->Zi,maxLen->Zj
open RowKit renaming Below->Zd,Hid->Ze,intOf->Zk
variable{F:YY}{R:aA}{o p:YZ}{i j k n:Nat}{N O:List YW}{K:aI}{W w x:World}{a:Int}{G H:Y7}{A B C u z:Value}{X Y:YX}{I:YW}{h r:List (ay×Value)}
def kQ{b:Y6}:∀{a:List YW}{e:Nat},aU F b a=.error e->e=4\/e=5
 |[],e,h=>by simp[aU]at h
 |r::a,e,h=>by
  rw[aU]at h;cases ha:bH F r b with
  |error e'=>rw[ha]at h;cases h;exact kF ha
  |ok v=>
   rw[ha]at h;simp only at h;cases hr:aU F b a with
   |error e'=>rw[hr]at h;cases h;exact kQ hr
   |ok vs=>rw[hr]at h;cases h
def qK:∀{a:YZ}{e:Nat},cu F R a=.error e->e=4\/e=5
 |[],e,h=>by simp[cu]at h
 |r::a,e,h=>by
  rw[cu]at h;cases ha:bZ F r.1 R with
  |error e'=>rw[ha]at h;cases h;exact jc ha
  |ok v=>
   rw[ha]at h;simp only at h;cases hr:cu F R a with
   |error e'=>rw[hr]at h;cases h;exact qK hr
   |ok z=>rw[hr]at h;cases h
def uu:∀{a:List gU}{rows:List YW}{e:Nat},jg a rows=.error e->e=4\/e=5
 |[],rows,e,h=>by simp[jg]at h
 |s::a,rows,e,h=>by
  rw[jg]at h;cases hj:aR s.a s.c s.d s.n (s.b.map (·.1)) rows with
  |error e'=>rw[hj]at h;cases h;exact nA hj
  |ok z=>rw[hj]at h;exact uu h
def Fp{s:aX}(h:cu F (aK s.d) o=.error n):fb F s (o.map (·.1))=.error n:=by rw[fb,fE,h];rfl
def Fq{s:aX}{z:YZ×YZ}(h:cu F (aK s.d) o=.ok z)(a:aU F (s.e.map (·.aW)) (z.1.map (·.1))=.error n):fb F s (o.map (·.1))=.error n:=by rw[fb,fE,h];simp only[wQ,a]
def Fs{s:aX}{z:YZ×YZ}(h:cu F (aK s.d) o=.ok z)(a:aU F (s.e.map (·.aW)) (z.1.map (·.1))=.ok N)(b:aU F (cZ s F) (fA (z.1.map (·.1)) N<|s.e.map (·.eC))=.error n):fb F s (o.map (·.1))=.error n:=by rw[fb,fE,h];simp only[wQ,a,b]
def Ft{s:aX}{z:YZ×YZ}(h:cu F (aK s.d) o=.ok z)(a:aU F (s.e.map (·.aW)) (z.1.map (·.1))=.ok N)(b:aU F (cZ s F) (fA (z.1.map (·.1)) N<|s.e.map (·.eC))=.ok O):fb F s (o.map (·.1))=.ok (gQ (if s.a=true then j8 O else O) s.offset s.g):=by rw[fb,fE,h];simp only[wQ,a,b]
def zJ{s:aX}{a:Y4}(h:bP K [] [[]] a s.b=.error n):kh K s a=.error n:=by unfold kh;rw[h]
def Az{s:aX}{a:Y4}(h:bP K [] [[]] a s.b=.ok N):kh K s a=fb (aw K a s.b) s N:=by unfold kh;rw[h]
def eN{P:Program}{h:Array Oper}{o:Oper}{a:Act}{K:Act->Za->Prop}{Q:Exit->Act->Za->Prop}{E:Prop}
 (q:o.guard=none){f:Nat}(x y z:Operand){C:Array Zf}(l:o.op=Op.call {callee:=Callee.value<|Operand.func f,args:=#[x,y,z],argTypes:=C})
 {i j k:Zb} (d:(Zi f #[i,j,k]).run P w=.ok (.enter f #[i,j,k]) w) (u:a.eval x=i) (A:a.eval y=j) (B:a.eval z=k) {b:Zb->Za->Prop} (p:Zc P f #[i,j,k] w λe c=>∃v,e=.returned v/\b v c)
 (n:∀v c,b v c->K (a.put o.dst v) c):
 if Region.wanted o (yielded h a.tmps)=true then Oper.wp P o a w K Q else E:=by
 have t:Region.wanted o (yielded h a.tmps)=true:=by simp[Region.wanted,q]
 rw[VG t];have g:(execOp a.eval o).run P w=.ok (.enter f #[i,j,k]) w:=by rw[<-d,<-u,<-A,<-B];simp[execOp,l,resolve,invoke,go_sem,Act.eval]
 unfold Oper.wp;rw[g,Oper.upon_enter];refine p.mono ?_;rintro e c⟨v,rfl,r⟩;exact n v c r
def FK{d:Y_}:(Zi 112 d).run prog w=.ok (.enter 112 d) w:=by
 have g:(f112.name == "runtime.NumGoroutine")=false:=by kernel_rfl
 have c: f112.body.isNone=false:=by kernel_rfl
 have a:¬f112.name = "runtime.NumGoroutine":=by simpa using g
 have b:¬f112.body=none:=by intro e;rw[e]at c;cases c
 simp[Zi,go_sem,func112,a,b]
def AV{d:Y_}:(Zi 115 d).run prog w=.ok (.enter 115 d) w:=by
 have g:(f115.name == "runtime.NumGoroutine")=false:=by kernel_rfl
 have c: f115.body.isNone=false:=by kernel_rfl
 have a:¬f115.name = "runtime.NumGoroutine":=by simpa using g
 have b:¬f115.body=none:=by intro e;rw[e]at c;cases c
 simp[Zi,go_sem,func115,a,b]
def fP.sub(h:fP w n o)(a:p.Sublist o):fP w n p:=⟨λq b=>h.1 q<|a.subset b,h.2.sublist a⟩
def fP.low(h:fP w n o)(a:k<=n):fP w k o:=⟨λq b=>bU (h.1 q b) a,h.2⟩
def vS:Prop:=∀(qs:YZ)(v:Zb)(base:Nat)(w:Za),kO w->w.ownsRow base 32 1 v qs.length (df qs)->fP w base qs->qs.length<=20000->(∀q∈qs,q.1.length<=1000/\gY q.1) ->
 Zc prog 114 #[v] w λe w'=>qB w w'/\∃rs u,e=.returned u/\rs.map (·.1)=j8 (qs.map (·.1))/\rs.Sublist qs/\w'.ownsRow w.heap.size 32 1 u rs.length (df rs)
def pZ(w:Za)(o:aV<|List YW)(e:Zg)(w':Za):Prop:=qB w w' /\
 ((∃er,o=.error er/\e=.returned (.tuple #[qN,qI (er:Nat)])) \/
  (∃qs v,o=.ok (qs.map (·.1))/\e=.returned (.tuple #[v,qI 0])/\w'.ownsRow w.heap.size 32 1 v qs.length (df qs)/\fP w' w.heap.size qs))
def GA(c:YZ)(b:Int)(e:0<=a)(d:b=-1\/0<=b)(g:c.length<=20000):(part c a.toNat (Eh b).toNat).map (·.1)=gQ (c.map (·.1)) a b:=by
 unfold part gQ Eh;obtain rfl|d:=d
 .simp only[if_true];rw[VG<|by omega,VX (by simp;omega),Xq]
 rw[VF<|by omega,VF<|by omega,XR,Xq]
def ny.g{v:Zb}(h:ny w n v o):rO w w.heap.size o v:=qy h.1 λp a=>c7 (f:=vC) (λ_=>rfl) (h.2 p a).1 qZ
def AW{a:Y6}:∀{rows out:List YW},aU F a rows=.ok out->out.length=rows.length
 |[],out,h=>by simp[aU]at h;subst h;rfl
 |r::rs,out,h=>by
  rw[aU]at h;cases ha:bH F r a with
  |error e=>rw[ha]at h;cases h
  |ok v=>
   rw[ha]at h;simp only at h;cases hr:aU F a rs with
   |error e=>rw[hr]at h;cases h
   |ok vs=>rw[hr]at h;cases h;simp[AW hr]
def Oe:(part o n k).Sublist o:=(YT _ _).trans<|Yn _ _
def Qf{f:Nat}{b:Y_}{j:aV (List YW)}{g:List Bool}(h:Zc prog f b W<|zV W j o g):Zc prog f b W λe k=>∃v,e=.returned v/\∃(a:Zb)(c:Int),v=.tuple #[a,qI c]/\zV W j o g (.returned<|.tuple #[a,qI c]) k:=by
 refine h.mono ?_;rintro e k⟨i,⟨c,d,rfl⟩|⟨dy,qs,v,d,l,n,p,rfl,q⟩⟩
 .exact⟨_,rfl,_,_,rfl,i,.inl ⟨c,d,rfl⟩⟩
 exact⟨_,rfl,_,_,rfl,i,.inr ⟨dy,qs,v,d,l,n,p,rfl,q⟩⟩
def Pw(X:dD){L:Nat}(a5:tp j L)(ba:j<=1048576){b:Nat}{ao:Zn}{s:aX}{ss:List (ay×Zb)}{vs:List (aA×Zb)}{ks:List Key}{v:Zb}(h:pY w G b ao K)(d:Al w n s ss vs ks u A v B)
 (g:∀is rows,bP K [] [[]] is s.b=.ok rows->rows.length<=j)(k:s.a=true->vS)(a:s.e.length<=L)(c:s.a=true->kO w):
 Zc prog 69 #[qP b,qP n] w (pZ w<|ch K s):=by
 have i:=Z<|Ch h d;have T:=Z d;have U:=Z h;have HN:=Z g;have a2:=Z k;have aJ:=Z c;have a_:=Z a;have hn:=lB d.g;clear h d g k c a;go_in;go_wp2_with refine i.mono ?_;rintro e w1⟨l,g⟩;clear i;have bm:=l.size;obtain⟨C,d,bb,rfl⟩|⟨is,M,J,O,sv,vv,wv,ov,S,rfl,k⟩:=g
 .have c:((C:Int) != 0)=true:=by simp;omega
  have a:Ze<|pZ w (ch K s) (.returned<|.tuple #[qN,qI (C:Nat)])<|w1.alloc<|.cells #[qN,qN,qN,qN] 221:=⟨l.alloc (by omega) _,.inl ⟨C,d,rfl⟩⟩;clear l d bb;go_wp2;go_ret2;exact a
 ·obtain ⟨aS,aT,bj⟩:=k.b.slice;obtain⟨ar,au,bk⟩:=k.c.1.slice;obtain⟨aV,aY,aW,bl⟩:=k.d.slice;obtain⟨ap,aq,bg⟩:=k.k.1.slice;subst bj;subst bk;subst bl;subst bg;have D:qB w1<|w1.alloc<|.cells #[.slice aS M.length aT,.slice ar J.length au,.slice aV aY aW,.slice ap O.length aq] 221:=qA;have Y:=aM w1<|.cells #[.slice aS M.length aT,.slice ar J.length au,.slice aV aY aW,.slice ap O.length aq] 221;have q:=l.trans<|D.mono bm;have z:=k.below D;have t:=U.below q;have H:M.length=s.b.length:=by
   have a:=k.a.1;have:∀{ab:YY} {is:Y4} {aN:Y3} {M:List gU},Am K ao ab is aN M->M.length=aN.length:=by
    intro ab is aN M
    induction M generalizing ab is aN with
    |nil=>intro h;cases is<;>cases aN<;>first|rfl|exact h.elim
    |cons p M ih=>intro h;cases is<;>cases aN<;>first|exact h.elim|(simp[ih h.2])
   exact this k.e
  have F:s.b.length<=3/\s.b≠[]:=by obtain⟨a,r,e,_,_,R,_⟩:=T.ok.b T.aC;rw[e];simp;omega
  have W:M≠[]:=by intro e;rw[e]at H;exact F.2<|V3.1 H.symm
  have I:∀i∈is,(ao.getD i sr).us.length=(ak K i).rows.length/\i<K.length:=λi hi=>⟨(t.us<|k.a.2 i hi).2.1,k.a.2 i hi⟩;have x:jg M [[]]=bP K [] [[]] is s.b:=Bd k.e λi hi=>(I i hi).1;have o:∀r∈([[]]:List YW),aZ [] r:=by intro r R;simp at R;subst R;exact aZ.d []
  have Q:pD M [[]]:=Dz U.ok k.e I (λit hi=>by
   have:=T.b.ok;rw [<-T.h] at hi;obtain ⟨y,hy,rfl⟩:=VV.1 hi;exact this y hy) k.n o (by simp;omega) (by
   have:M.length<=3:=by omega
   calc ([[]]:List YW).length*25 ^ M.length<=1*25 ^ 3:=YK (by simp) (Xo (by omega) this)
    _<=20000:=by decide)
  have HJ:=Z (NF X z.b W (by omega) (λy hy=>by
   obtain⟨c,i,it,u',hi,e⟩:=Am.at k.e y hy
   exact QC t (k.a.2 i hi) e<|z.o y hy) Q)
  rw[x]at HJ;have N:Ze (∀e,bP K [] [[]] is s.b=.error e->e=4\/e=5):=λe he=>uu<|x▸he;have P:Ze (∀rows,bP K [] [[]] is s.b=.ok rows->(∀r∈rows,aZ (aw K is s.b) r)/\rows.length<=20000):=λrows R=>by
   obtain⟨a,p⟩:=sL U.ok k.a.1 k.a.2 o R;refine⟨by simpa using a,Wf p ?_⟩;have:is.length<=3:=by rw[k.a.1];exact F.1
   calc ([[]]:List YW).length*25 ^ is.length<=1*25 ^ 3:=YK (by simp) (Xo (by omega) this)
    _<=20000:=by decide
  have V:=Z k;have av:=Z q;have a6:=Z Y;have E:=Z S;clear l k D Y q z t H F W I x o Q S;go_wp2_with refine HJ.mono ?_;rintro e w3⟨l,g⟩;have t:=bB l (by simp) a6;have z:qB w w3:=av.trans<|l.mono av.size;have k:qB w1 w3:=(qA).trans<|l.mono (by simp);have ax:=Z z;have a7:=Z t;have ac:=Z k;have bn:=lB t;have y2:=bC t;clear HJ;obtain⟨C,d,rfl⟩|⟨js,jv,q,rfl,D⟩:=g
  .have o:((C:Int) != 0)=true:=by have:=N.o C d;simp;omega
   have a:Ze<|pZ w (ch K s) (.returned<|.tuple #[qN,qI (C:Nat)]) w3:=⟨z,.inl ⟨C,by rw[E,zJ d],rfl⟩⟩;clear d l t z k;go_wp2;go_ret2;exact a
  obtain⟨bD,bE,be⟩:=bN D.1;have F:=V.below k;obtain⟨S,o⟩:=P.o _ q;have a:∀p∈js,aZ (aw K is s.b) p.1:=λp H=>S p.1<|V0 H;simp only[VL]at o;have I:js.length<=j:=by have:=HN.o _ _ q;simpa using this
  have Q:=Z<|Rd X D.g F.d F.q (λp H=>⟨(a p H).2.1,W_ (a p H).1.symm⟩) (by omega);have x:Ze<|ch K s=fb (aw K is s.b) s (js.map (·.1)):=by rw[Ze,E,Az q]
  have Y:=Z a;have aD:=Z D;have aE:=Z o;have a1:=Z I;subst be;clear l t z k q D F S a o I E N P;generalize a:aw K is s.b=ab at*;have l:=Z a;clear a;go_wp2_with refine Q.mono ?_;rintro e w4⟨(I:Ze _),g⟩;have P:=bB I bn a7;have D:qB w w4:=ax.trans<|I.mono ax.size;have o:qB w1 w4:=ac.trans<|I.mono ac.size;have az:=Z D;have a8:=Z P;have ad:=Z o;have bo:=lB P;have ag:=I.size;clear Q;obtain⟨C,d,rfl⟩|⟨z,v1,v2,q,rfl,an,_,_⟩:=g
  .have k:((C:Int) != 0)=true:=by have:=qK d;simp;omega
   have a:Ze<|pZ w (ch K s) (.returned<|.tuple #[qN,qI (C:Nat)]) w4:=⟨D,.inl ⟨C,by rw[x,Fp d],rfl⟩⟩;clear d I P D o;go_wp2;go_ret2;exact a
  obtain⟨(N:Ze _),_,zl⟩:=me q;obtain⟨bH,bI,F⟩:=bN an;obtain⟨bJ,bL,bK,S⟩:∃a n c,v2=.slice a n c:=aF ‹_›;have y3:=bC P;have E:=T.below D;have d4:=bC E.g 4;simp at d4;have bv:=lB E.g;obtain⟨oa,oc,ho⟩:=E.e.1.slice;have ai:Ze (∀W,qB w4 W->Zc prog 112 #[v1,.slice ap O.length aq,B] W (zV W (aU ab (O.map (·.1))<|z.1.map (·.1)) z.1<|pG ks)):=λW hW=>by
   have aL:qB w3 W:=I.trans<|hW.mono ag;have t:=E.below hW;have al:=V.below<|o.trans<|hW.mono o.size;have hE:=al.h;have bf:O.length=ks.length:=by have h1:=Wd List.length hE;have h2:=Wd List.length t.a;simp at h1 h2;omega
   exact Nv X a5 ab O (qy (aB hW an) λp H=>c7 (f:=vC) (λ_=>rfl) (aB aL (aD.2 p<|N p H).1) qZ) (by rw[<-l];exact al.k) t.e.1 (λk hk=>(t.e.2 k hk).ptr) bf (by rw[<-l];exact al.l) (λp H=>Y p<|N p H) (by have:=a1.o;omega) ba (by have h1:=t.ok.h;have h2:=Wd List.length t.a;simp at h2;omega) (by have h1:=a_.o;have h2:=Wd List.length t.a;simp at h2;omega)
  have Q:=Z q;have a9:=Z zl;rw[F,ho]at ai;rw[ho]at d4;rw[F,S];clear P D o q E an F S ho zl;have aC:Ze<|qB w4 w4.drew:=qW.drew;go_upto_region 10 with fail
  go_region_law (refine eN rfl (.tmp 39) (.tmp 41) (.tmp 45) rfl FK rfl rfl rfl (Qf<|ai _ aC) ?_
                 rintro v5 w5⟨a5,bu,rfl,(P:Ze _)⟩
                 skip)
  all_goals
   obtain⟨D,g⟩:=P.o;have o:qB w4 w5:=aC.trans D;have F:qB w w5:=az.trans<|o.mono az.size;have q:qB w1 w5:=ad.trans<|o.mono ad.size;have E:=bB o bo a8;have ah:=Z F;have br:=Z E;have bz:=lB E;have y1:=bC E;clear P ai D;obtain⟨C,d,he⟩|⟨dy,qs,v',R,hq,hm,hl,he,D⟩:=g
   .simp at he;obtain⟨rfl,rfl⟩:=he;have t:((C:Int) != 0)=true:=by have:=kQ d;simp;omega
    have k:Ze<|pZ w (ch K s) (.returned<|.tuple #[qN,qI (C:Nat)]) w5:=⟨F,.inl ⟨C,by rw[x];exact Fq Q (by rw[<-V.h];exact d),rfl⟩⟩;clear d o E F q;go_wp2;go_ret2;exact k
   .simp at he;obtain⟨rfl,rfl⟩:=he;obtain⟨bs,bt,am⟩:=bN D;have k:=V.below q;have P:qB w3 w5:=I.trans<|o.mono ag;have aP:qs.length<=20000:=by have:=a9.o;have:=aE.o;omega
    have aR:J.length<=1000:=by
     have t:=Wd List.length k.j
     have h2:=Ht T.ok (aw K is s.b) (by
      have k1:=qd U.ok is s.b k.a.2;have k2:=T.b.len;have k3:=Wd List.length T.h;have k4:=k.a.1;simp at k3
      omega)
     simp at t;omega
    have S:=Z<|GG X ab J (.slice ar J.length au) (qy D λp H=>c7 (f:=vC) (λ_=>rfl) (aB P (aD.2 p<|N p<|hm p H).1) qZ) (by rw[<-l];exact k.c) (by rw[<-l];exact k.g) (λp H=>⟨(Y p<|N p<|hm p H).2.1,W_ (Y p<|N p<|hm p H).1.symm⟩) (by omega) aR;have HEq:Ze<|aU ab (J.map (·.1)) (qs.map (·.1))=aU ab (cZ s ab) (fA (z.1.map (·.1)) dy<|s.e.map (·.eC)):=by unfold Ze;rw[hq,T.i,k.j,l]
    have aa:Ze<|aU ab (s.e.map (·.aW)) (z.1.map (·.1))=.ok dy:=by rw[Ze,<-k.h];exact R
    have aH:Ze (∀out,aU ab (J.map (·.1)) (qs.map (·.1))=.ok out->∀v∈out,v.length<=1000/\gY v):=by
     intro out ho v hv
     have h1:=(qk (λt ht=>by obtain ⟨p,H,rfl⟩:=VV.1 ht;exact (k.g p H).1) (λr bh=>by
      obtain⟨p,H,rfl⟩:=VV.1 bh
      exact Y p<|N p<|hm p H) ho).2 v hv
     refine⟨?_,h1.2⟩;have h2:=h1.1;simp at h2;omega
    have a4:=Z aP;rw[am]at S;rw[am];clear R hq hm hl D am k P aP aR o E F q;go_wp2_with refine S.mono ?_;rintro e w6⟨(aj:Ze _),g⟩;have o:qB w w6:=ah.trans<|aj.mono ah.size;have bp:=Z o;have bA:=aj.size;clear S;obtain⟨C,d,rfl⟩|⟨rs,rv,S,rfl,k,D⟩:=g
    .have t:((C:Int) != 0)=true:=by have:=kQ d;simp;omega
     have q:Ze<|pZ w (ch K s) (.returned<|.tuple #[qN,qI (C:Nat)]) w6:=⟨o,.inl ⟨C,by rw[x];exact Fs Q aa (by rw[<-HEq];exact d),rfl⟩⟩;clear d aj o;go_wp2;go_ret2;exact q
    obtain⟨bF,bG,bi⟩:=bN k;have P:Ze<|ch K s=.ok (gQ (if s.a=true then j8 (rs.map (·.1))else rs.map (·.1)) s.offset s.g):=by rw[Ze,x];exact Ft Q aa (by rw[<-HEq];exact S)
    have aQ:rs.length<=20000:=by have h1:=AW S;have h2:=a4.o;simp at h1;omega
    have F:=T.below o;have af:=F.ok.offset;have ae:=F.ok.g
    have t:Ze (∀(W:Za) (fs:YZ) (fv:Zb) (base:Nat),qB w6 W->W.ownsRow base 32 1 fv fs.length (df fs)->fs.Sublist rs->fs.map (·.1)=(if s.a=true then j8 (rs.map (·.1))else rs.map (·.1)) ->
     Zc prog 115 #[fv,qI s.offset,qI<|Eh s.g] W λe w'=>∃v,e=.returned v/\((∃a n c,v=.slice a n c)/\pZ w (ch K s) (.returned<|.tuple #[v,qI 0]) w')):=by
     intro W fs fv base hW bd E hE;have bc:fs.length<=20000:=Wf E.length_le aQ;have e1:(s.offset.toNat:Int)=s.offset:=YM af.1;have e2:(((Eh s.g).toNat:Nat):Int)=Eh s.g:=by
      refine YM ?_;unfold Eh;obtain h|h:=ae
      .rw[VG h];omega
      split<;>omega
     have hw:=QR base s.offset.toNat (Eh s.g).toNat bd (λq hq=>aF<|D.1 q<|E.subset hq) (by omega);rw[e1,e2]at hw;refine hw.mono ?_;rintro e w'⟨hb,u',rfl,R⟩;have aK:qB w6 w':=hW.trans<|hb.mono hW.size;refine⟨u',rfl,aF R,o.trans<|aK.mono o.size,.inr ⟨part fs s.offset.toNat (Eh s.g).toNat,u',?_,rfl,bU R (by have:=hW.size;have:=o.size;omega),((D.below aK).sub<|Oe.trans E).low (by have:=ah.size;omega)⟩⟩;rw[P,GA fs s.g af.1 (ae.imp id And.left) bc,hE]
    have d0:=bC F.g 0;simp at d0;have bw:=lB F.g;have bq:=Z<|And.intro k D;subst bi;cases hdi:s.a with
    |false=>
     have d5:=bC F.g 5;have d6:=bC F.g 6;simp at d5 d6;rw[hdi]at d0 t;have a0:=Z<|t w6.drew rs _ _ qW.drew (aB qW.drew k) (YR _) rfl;clear S k D o F hdi t HEq aa P x;go_upto_region 18 with fail
     go_region_law (refine eN rfl (.tmp 68) (.tmp 72) (.tmp 76) rfl AV rfl rfl rfl a0 ?_
                    rintro v8 w8⟨⟨bM,bQ,bO,rfl⟩,aO⟩;have a3:=Z aO
                    clear aO)
     all_goals go_wp2_with fail
     all_goals go_ret2;exact a3
    |true=>
     have aG:=Z<|(a2 hdi) rs _ _ w6 ((aJ hdi).aL<|o.block _ (aJ hdi).lt) k D aQ λq hq=>aH _ S q.1<|VV.2 ⟨q,hq,rfl⟩;rw[hdi]at d0 t;clear S k D o hdi HEq aa P x;go_wp2_with refine aG.mono ?_;rintro e w7⟨x,ts,tv,rfl,D,E,k⟩;obtain⟨ta,tc,S⟩:=bN k;subst S;have o:=F.below x;have d5:=bC o.g;have bx:=lB o.g;have P:=Z<|t w7.drew ts _ _ x.drew (aB qW.drew k) E (by simpa using D);clear x D E k o F t aG;go_upto_region 18 with fail
     go_region_law (refine eN rfl (.tmp 68) (.tmp 72) (.tmp 76) rfl AV rfl rfl rfl P ?_
                    rintro E F⟨⟨t,D,x,rfl⟩,k⟩;have o:=Z k
                    clear k)
     all_goals go_wp2_with fail
     all_goals go_ret2;exact o
def KG{b:Nat}{z:Zn}(h:pY w G b z K){l:Lay}{t:bV}(F:z[i]?=some l)(I:K[i]?=some t){rows:List YW}{us:Y0}{v':Zb}(g:qB w W)
 (a:W.ownsRow w.heap.size 32 1 v' rows.length us)(d:rows=[]->v'=qN)(p:∀(j:Nat)(r:YW)(u:Zb),rows[j]?=some r->us[j]?=some u->Ak W (grown G w W) r u)(D:ec<|cm K i rows):
 (∃cv,W.heap[l.n]?=some (.cells #[qT t.name,cv,l.a] 94)) /\
 fW w.heap.size w G b (cm K i rows) (W.setCell ⟨l.n,2,none⟩ v') (grown G w W) (z.set i ⟨l.n,v',us⟩):=by
 have B:=h.c i l t F I;obtain⟨cv,L,E,M⟩:=B.g;have P:=g.size;have o:W.heap[l.n]?=some (.cells #[qT t.name,cv,l.a] 94):=(g.block _<|h.lt _ B.own).trans L;refine⟨⟨cv,o⟩,?_⟩;have c:∀k,k<w.heap.size->k≠l.n->(W.setCell ⟨l.n,2,none⟩ v').heap[k]?=w.heap[k]?:=λk hk y=>by rw[VN _ _ _ _ y];exact g.block k hk
 have q:∀{base:Nat} {e:Zf} {size n:Nat} {v:Zb} {J:Y0},W.ownsRow base e size v n J->e≠94->∀k,v.ownBlock=some k->(W.setCell ⟨l.n,2,none⟩ v').heap[k]?=W.heap[k]?:=by intro base e size n v J x N k hk;obtain⟨C,m,O⟩:=eX x hk;exact VN _ _ _ _<|gZ O o N
 have A:∀k,G k->grown G w W k:=λk hk=>.inl hk;refine⟨h.put F I A (λk hk=>?_) (λk hk y H=>c k (h.lt k hk) y) ?_ (λk hk=>.inr (a.lt k hk).1) D,A,λk hk=>hk.imp id λh=>h.1,?_⟩
 .rw[size_set];obtain hk|hk:=hk
  .have:=h.lt k hk;omega
  exact hk.2
 .refine⟨A _ B.own,⟨cv,?_,?_,λk hk=>A k<|M k hk⟩,?_,λk hk=>.inr<|a.lt k hk,d,λj r x C N=>?_⟩
  .have:=bS o 2 v';simpa using this
  .exact cN (aB g E)<|q (aB g E)<|by decide
  .exact cN (bU a qO)<|q a<|by decide
  have:=p j r x C N;exact this.aL (λk hk=>hk)<|q this.1<|by decide
 .refine⟨g.os,g.tape,g.output,by rw[size_set];omega,λk hk=>c k hk.1 λe=>hk.2<|e▸B.own⟩
def AF{s:aX}(h:bO K s.table=none):dm K s=(K,di 2):=by unfold dm;rw[h]
def AG{s:aX}(h:bO K s.table=some i)(a:aT (ax (ak K i).name<|ak K i) (aK s.d) 3=some n):dm K s=(K,di n):=by unfold dm;rw[h];simp only[a]
def AH{s:aX}(h:bO K s.table=some i)(a:aT (ax (ak K i).name<|ak K i) (aK s.d) 3=none)(b:j9 (ax (ak K i).name<|ak K i) (aK s.d) (ak K i).rows=.error n):dm K s=(K,di n):=by unfold dm;rw[h];simp only[a,b]
def AJ{s:aX}{z:List YW×List YW}(h:bO K s.table=some i)(a:aT (ax (ak K i).name<|ak K i) (aK s.d) 3=none)(b:j9 (ax (ak K i).name<|ak K i) (aK s.d) (ak K i).rows=.ok z):dm K s=(cm K i z.2,⟨[],z.1.length,0⟩):=by unfold dm;rw[h];simp only[a,b]
def Jv{z:YZ×YZ}(h:cu F R o=.ok z):j9 F R (o.map (·.1))=.ok (z.1.map (·.1),z.2.map (·.1)):=by rw[fE,h];rfl
def jR{d:Y_}:(Zi 105 d).run prog w=.ok (.enter 105 d) w:=by
 have g:(f105.name == "runtime.NumGoroutine")=false:=by kernel_rfl
 have c: f105.body.isNone=false:=by kernel_rfl
 have a:¬f105.name = "runtime.NumGoroutine":=by simpa using g
 have b:¬f105.body=none:=by intro e;rw[e]at c;cases c
 simp[Zi,go_sem,func105,a,b]
def Nd{d:Y_}:(Zi 107 d).run prog w=.ok (.enter 107 d) w:=by
 have g:(f107.name == "runtime.NumGoroutine")=false:=by kernel_rfl
 have c: f107.body.isNone=false:=by kernel_rfl
 have a:¬f107.name = "runtime.NumGoroutine":=by simpa using g
 have b:¬f107.body=none:=by intro e;rw[e]at c;cases c
 simp[Zi,go_sem,func107,a,b]
def Dx{j:Zn}(h:pY w G k j K){l:Lay}(u:j[i]?=some l)(t:K[i]?=some (ak K i))(q:ij<|ak K i)(g:YX):
 Zc prog 106 #[qP l.n,qT g] w λe o=>∃v,e=.returned v/\qB w o/\(∃a n c,v=.slice a n c)/\br o o.heap.size 3 lS (ax g<|ak K i) v:=by
 obtain⟨cv,b,p,_⟩:=(h.c i l _ u t).g;have c1:=bC b 1;simp at c1;refine(Jr g (lB b) c1 (pW p) (by have:=q.b;omega)).mono ?_;rintro e o⟨r,v,rfl,d⟩;exact⟨v,rfl,r,aF d,by rw[yw];exact c7 (f:=lS) (λ_=>rfl) d qZ⟩
def FD{f:Nat}{a:Y_}(h:Zc prog f a W<|mj W R F 3):Zc prog f a W λe d=>∃v,e=.returned v/\∃(p n c:_)(b:Nat),v=.tuple #[.agg #[.slice p n c],qI (b:Nat)]/\qB W d/\((aT F R 3=some b)\/(b=0/\aT F R 3=none/\lM d (El W.heap.size d.heap.size) F R (.slice p n c))):=by
 refine h.mono ?_;rintro e d⟨j,⟨b,g,rfl⟩|⟨cv,g,rfl,i⟩⟩
 .exact⟨_,rfl,_,_,_,b,rfl,j,.inl g⟩
 obtain⟨p,n,c,rfl⟩:=i.slice;exact⟨_,rfl,p,n,c,0,rfl,j,.inr ⟨rfl,g,i⟩⟩
def JD{l:Lay}{t:bV}(d:B_ w G l t):rO w w.heap.size (t.rows.zip l.us) l.a/\(t.rows.zip l.us).map (·.1)=t.rows/\∀p∈t.rows.zip l.us,Ak w G p.1 p.2:=by
 have e:l.us.length=t.rows.length:=by have:=d.rows.1;omega
 have i:(t.rows.zip l.us).map (·.1)=t.rows:=Ad<|W_ e.symm;have hs:df (t.rows.zip l.us)=l.us:=by
  unfold df;have:∀(a:List YW) (b:Y0),b.length=a.length->(a.zip b).map (·.2)=b:=λa=>by
   induction a with
   |nil=>intro b h;simp at h;subst h;rfl
   |cons x a ih=>intro b h;cases b with
    |nil=>rfl
    |cons y b=>simp[ih b<|by simpa using h]
  exact this _ _ e
 have c:∀p∈t.rows.zip l.us,Ak w G p.1 p.2:=λp g=>by
  obtain⟨j,h,b⟩:=Xe g;have a:(t.rows.zip l.us)[j]?=some p:=by rw[<-b];exact VE h
  rw[Xk]at a;exact d.each j p.1 p.2 a.1 a.2
 refine⟨qy (base:=0) ?_ λp g=>c7 (f:=vC) (λ_=>rfl) (c p g).1 qZ,i,c⟩;rw[hs,WS,e,XB];exact d.rows
def OE{f:Nat}{a:Y_}{o:aV (YZ×YZ)}(h:Zc prog f a W<|E2 W o):Zc prog f a W λe g=>∃v,e=.returned v/\∃(d:Y8)(j c1:Nat)(b:Y8)(k c2:Nat)(c:Nat),v=.tuple #[.slice d j c1,.slice b k c2,qI (c:Nat)]/\qB W g/\(o=.error c\/(c=0/\∃z,o=.ok z/\j=z.1.length/\g.ownsRow W.heap.size 32 1 (.slice d j c1) z.1.length (df z.1)/\g.ownsRow W.heap.size 32 1 (.slice b k c2) z.2.length (df z.2)/\(z.2=[]->(.slice b k c2:Zb)=qN))):=by
 refine h.mono ?_;rintro e g⟨p,⟨c,i,rfl⟩|⟨z,u,w,i,rfl,l,n,t⟩⟩
 .exact⟨_,rfl,_,_,_,_,_,_,c,rfl,p,.inl i⟩
 obtain⟨d,c1,q⟩:=bN l;obtain⟨b,c2,r⟩:=bN n;subst q;subst r;exact⟨_,rfl,d,_,c1,b,_,c2,0,rfl,p,.inr ⟨rfl,z,i,rfl,l,n,t⟩⟩
def JX(ab:YY)(t:aA)(wx:Za)(p:Y8)(n c er:Nat):Prop:=aT ab t 3=some er\/(er=0/\aT ab t 3=none/\i7 wx wx.heap.size ab t (.slice p n c))
def FG{p:Y8}{K:Nat}(a:qB w W)(e:aT F R 3=some j\/(j=0/\aT F R 3=none/\lM W (El K W.heap.size) F R (.slice p n i))):
 qB w (W.alloc<|.cells #[.slice p n i] 204)/\(W.alloc<|.cells #[.slice p n i] 204).heap[W.heap.size]?=some (.cells #[.slice p n i] 204)/\JX F R (W.alloc<|.cells #[.slice p n i] 204) p n i j:=
 ⟨a.alloc a.size _,aM _ _,e.imp id λ⟨b,c,d⟩=>⟨b,c,(d.prog λk hk=>hk.2).below qA⟩⟩
def zZ{p:Y8}{K a:Nat}(g:qB w W)(l:W.heap[a]?=some (.cells #[qN] 204))(b:w.heap.size<=a)(o:a<K)(h:aT F R 3=some j\/(j=0/\aT F R 3=none/\lM W (El K W.heap.size) F R (.slice p n i))):
 qB w (W.setCell ⟨a,0,none⟩<|.slice p n i)/\(W.setCell ⟨a,0,none⟩<|.slice p n i).heap[a]?=some (.cells #[.slice p n i] 204)/\JX F R (W.setCell ⟨a,0,none⟩<|.slice p n i) p n i j:=by
 refine⟨g.setCell b _,by simpa using bS l 0 (.slice p n i),h.imp id λ⟨c,d,e⟩=>⟨c,d,?_⟩⟩;refine lM.prog (Q:=El K W.heap.size) (iE.aL e λk hk=>VN _ _ _ _ (show k≠a by have:=hk.1;omega)) (λk hk=>by rw[size_set];exact hk.2)
def PH(X:dD)(Y:Nat){b:Nat}{ar:Zn}(s:aX){v:Zb}(h:xX w G b ar K)(hn:w.heap[n]?=some (.cells #[qT s.table,v] 201))(hv:xW w w.heap.size s.d v)(hs:eL s)(aD:Y<=w.heap.size):
 Zc prog 67 #[qP b,qP n] w (nj Y w G b<|dm K s):=by
 have ai:=lB hn;have n0:=bC hn 0;have n1:=bC hn 1;simp at n0 n1;have HF:=Z<|FN s.table h.a;have E:=Z h;have HV:=Z hv;have HS:=Z hs;generalize aA:dm K s=out;have B:=Z aA;have N:Ze (∀er U,out=(K,di er)->qB w U->nj Y w G b out (.returned<|.tuple #[qI 0,qI (er:Nat)]) U):=λer U ho hb=>by rw[ho];exact⟨rfl,G,ar,fW.below h.a hb⟩
 have ae:Ze (∀U M' A D' (c:Int),out=(D',⟨[],c,0⟩)->fW Y w G b D' U M' A->nj Y w G b out (.returned<|.tuple #[qI c,qI 0]) U):=λU M' A D' c ho T=>by rw[ho];exact⟨rfl,M',A,T⟩
 generalize nj Y w G b out=aL at*;obtain⟨va,aG⟩:=hv.ptr;subst aG;cases hta:bO K s.table with
 |none=>
  rw[hta]at HF;have a:=Z<|N 2 w (by rw[<-B];exact AF hta) qW;simp only[iA]at HF;go_in;go_wp2_with fail;apply qS HF;go_wp2;exact a
 |some i=>
  obtain⟨l,(HL:Ze _),(D:Ze _),al⟩:=oG E.a<|cx hta;rw[hta,al]at HF;have hT:=E.a.c i l _ HL D;have o:=E.a.ok.2 _<|dS<|cx hta;obtain⟨cv,y,F,_⟩:=hT.g;have l0:=bC y;have aQ:=lB y;have C:=Z hta;have I:=Z o;have x:Ze (∀J,qB w J->_):=λJ V=>Dx (E.a.below V) HL D o (ak K i).name;have t:Ze (∀J v',qB w J->br J J.heap.size 3 lS (ax (ak K i).name<|ak K i) v'->_):=λJ v' V H=>FD<|qh s.d (ax (ak K i).name<|ak K i) (.pointer va) v' J ⟨(E.below V).rules,(E.below V).d.2,(HV.aL λk hk=>V.block k hk).more V.size,HS.d,H,by rw[cH];have:=o.b;omega⟩;have aa:Ze<|qB w w.drew:=qW.drew;have M:Ze<|qB w (w.alloc<|.cells #[qN] 204).drew:=(qA).drew;have av:Ze<|(w.alloc<|.cells #[qN] 204).drew.heap[w.heap.size]?=some (.cells #[qN] 204):=aM w _;go_in;go_wp2_with fail;apply qR HF;intro w1 h1;rw[h1];go_upto_region 4 with fail
  go_cut [7,8] (λs7 s8 wx=>∃(xb:Nat) (p4:Y8) (n4 c4 q:Nat),s7=qP xb/\s8=qI (q:Nat)/\Ze (qB w wx/\wx.heap[xb]?=some (.cells #[.slice p4 n4 c4] 204)/\JX (ax (ak K i).name<|ak K i) (aK s.d) wx p4 n4 c4 q))
  case first=>
   go_region_law (first
    | (refine dQ rfl (.tmp 24) (.tmp 28) rfl pH rfl rfl (x _ aa) ?_
       rintro v3 P⟨d,⟨a3,n3,c3,rfl⟩,g⟩;have a:=Z<|aa.trans d;have u:=Z g;have R:n<P.heap.size:=(by have:=a.size;omega);have S:=(VK<|a.block n ai).trans n1;have O:=Z<|VR 0
       clear d g)
    | (refine dQ rfl (.tmp 24) (.tmp 28) rfl pH rfl rfl (x _ M) ?_
       rintro v3 P⟨d,⟨a3,n3,c3,rfl⟩,g⟩;have a:=Z<|M.trans<|d.mono M.size;have u:=Z g;have R:n<P.heap.size:=(by have:=a.size;omega);have S:=(VK<|a.block n ai).trans n1;have z:Ze<|P.heap[w.heap.size]?=some (.cells #[qN] 204):=(d.block _<|by simp[Za.drew]).trans av
       clear d g)
    | (refine dQ rfl (.tmp 23) (.tmp 29) rfl jR rfl rfl (t _ _ a u) ?_
       rintro v4 w4⟨p4,n4,c4,q,rfl,g,j⟩;have p:=Z<|a.trans<|g.mono a.size;have r:=Z j;have d:=bB g (lB z) z;have r0:=bC d 0;have rf:=bF d 0;simp at r0;have rz:=lB d;have L:=Z d
       clear g j d)
    | (refine dQ rfl (.tmp 23) (.tmp 29) rfl jR rfl rfl (t _ _ a u) ?_
       rintro v4 w4⟨p4,n4,c4,q,rfl,g,j⟩;have p:=Z<|a.trans<|g.mono a.size;have r:=Z j;have Q:=O
       clear g j)
    | (refine dQ rfl (.tmp 23) (.tmp 29) rfl jR rfl rfl (t _ _ (a.alloc a.size<|.cells #[qN] 204)<|u.below<|qW.alloc qZ<|.cells #[qN] 204) ?_
       rintro v4 w4⟨p4,n4,c4,q,rfl,g,j⟩;have p:=Z<|(a.alloc a.size<|.cells #[qN] 204).trans<|g.mono<|Wf a.size (by simp);have r:=Z j;have d:=bB g (by simp)<|aM P<|.cells #[qN] 204;have r0:=bC d;have rf:=bF d 0;have rz:=lB d;have L:=Z d;have W:=O
       clear g j d))
   all_goals go_wp2_with fail
   all_goals go_meet
   all_goals first
    |exact⟨_,_,_,_,_,rfl,rfl,zZ p L qZ (Z<|lB z).o r⟩
    |exact⟨_,_,_,_,_,rfl,rfl,zZ p L a.size (by simp) r⟩
    |exact⟨_,_,_,_,_,rfl,rfl,FG p r⟩
  obtain⟨xb,p4,n4,c4,q,rfl,rfl,ab⟩:=hcut;obtain⟨(a:Ze _),an,aC⟩:=ab.o;obtain ah|⟨rfl,am,R⟩:=aC
  .have g:((q:Int) != 0)=true:=by have:=fu ah;simp;omega
   have d:=Z<|N q wc (by rw[<-B];exact AG C ah) a;go_wp2;exact d
  have aB:=E.below a;have hT:=aB.a.c i l _ HL D;obtain⟨hm,(O:Ze _),g⟩:=JD hT;have o:=I.o;have S:∀p∈(ak K i).rows.zip l.us,aZ (ax (ak K i).name<|ak K i) p.1:=λp W=>(o.rows p.1 (by rw[<-O];exact V0 W)).src;have ag:qB wc wc.drew:=qW.drew;have Q:gR (ax (ak K i).name<|ak K i)<|aK s.d:=by obtain⟨j,h1,_⟩:=gv am;exact⟨nV HS.d,j,h1⟩
  have ac:=Z<|OE<|Rd X (hm.below ag) (R.below ag) Q (λp W=>⟨(S p W).2.1,W_ (S p W).1.symm⟩) (by rw[WS];have:=o.d;omega);obtain⟨aP,y,aN,_⟩:=hT.g;have aq:=bC y 2;simp at aq;have aO:=lB y;have x0:=bC an;have aR:=lB an;have ad:=Z am;have az:=Z g;have ay:=Z S;obtain⟨ra,rc,aF⟩:=bN hT.rows;rw[aF]at ac aq;go_upto_region 7 with fail
  go_region_law (refine dQ rfl (.tmp 40) (.tmp 41) rfl Nd rfl rfl ac ?_
                 rintro v6 w6⟨a1,m1,c1,a2,m2,c2,af,rfl,d,(aw:Ze _)⟩;have au:=Z d
                 clear d)
  all_goals
   have d:qB wc w6:=Zd.trans qW.drew au;have P:qB w w6:=a.trans<|d.mono a.size;have aJ:=Z P;obtain L|⟨rfl,z,hz,aE,h1,h2,h3⟩:=aw.o
   .have r:((af:Int) != 0)=true:=by have:=qK L;simp;omega
    have j:=Z<|N af w6 (by rw[<-B];refine AH C ad ?_;rw[<-O,fE,L];rfl) P;go_wp2;exact j
   .obtain⟨_,ao,aH⟩:=me hz;have ap:=Jv hz;rw[O]at ap
    have aj:ec<|cm K i<|z.2.map (·.1):=E.a.ok.set (cx C) (by
     have:=I.d;rw [WS] at aH;simp;omega) (λr H=>by
     obtain⟨p,W,rfl⟩:=VV.1 H
     exact(ay.o p<|ao p W).c)
    obtain ⟨⟨cv,F⟩,T⟩:=KG (rows:=z.2.map (·.1)) (us:=df z.2) (v':=.slice a2 m2 c2) E.o.a HL.o D.o P (by rw [VL];exact bU h2 (show w.heap.size<=wc.heap.size from a.o.size)) (λe=>h3<|Xs.1 e) (λj r u H hu=>by
     rw[VO]at H;unfold df at hu;rw[VO]at hu;cases hj:z.2[j]? with
     |none=>rw[hj]at H;cases H
     |some p=>
      rw[hj]at H hu;cases H;cases hu;have g:=az.o p<|ao p<|VY hj
      exact(g.aL (λk hk=>hk) λk hk=>d.block k (g.1.lt k hk).2).aL (λk hk=>.inl hk) (λk _=>rfl)) aj
    have HE:=Z<|ae _ _ _ _ z.1.length (by rw[<-B];have:=AJ C ad ap;simpa using this)<|T.low aD;have s2:=bC F;have sf:=bF F 2;have sz:=lB F;subst aE;go_wp2;exact HE
def so{t:bV}{c:YX×Int}(h:∀(j:Nat)(c:YX×Int),j<i->t.a[j]?=some c->c.1≠X)(d:t.a[i]?=some c)(e:c.1=X):dY t X=some i:=by unfold dY;obtain⟨a,b⟩:=VZ.1 d;rw[Xj];refine⟨a,by rw[b];simpa using e,λj g=>?_⟩;have:=h j _ g<|VE (by omega);simpa using this
def sk{t:bV}(h:∀(j:Nat)(c:YX×Int),t.a[j]?=some c->c.1≠X):dY t X=none:=by unfold dY;rw[Ym];intro c a;obtain⟨j,b,rfl⟩:=Xe a;have:=h j _<|VE b;simpa using this
def SE(ob:Nat):Zb:=.func (.func 224) #[] #[.pointer<|some ⟨ob,0,none⟩]
def Um(c a:YX)(g:Int)(d:w.heap[n]?=some (.cells #[.string ⟨a.toArray⟩] 9)):
 Zc prog 224 #[.agg #[.string ⟨c.toArray⟩,.int .i64 g],.pointer<|some ⟨n,0,none⟩] w λe j=>e=.returned (.bool<|decide<|c=a)/\qB w j:=by
 have i:=lB d;have h:=bC d 0;simp at h;have HB:Ze<|qB w<|w.alloc<|.cells #[.string ⟨c.toArray⟩,.int .i64 g] 97:=qA;by_cases b:c=a
 .obtain⟨k,l⟩:=kj b;rw[Xy b];clear b;go_in;go_wp2;go_ret;exact⟨rfl,HB⟩
 .obtain⟨k,l⟩:=ku b;rw[Xd b];go_in;go_wp2;go_ret;exact⟨rfl,HB⟩
def Mz(w:Za)(k:Int)(e:Zg)(w':Za):Prop:=e=.returned (.int .i64 k)/\qB w w'
def Of(t:bV)(b:YX)(p:br w w.heap.size 2 OT t.a u)(S:t.a.length<=1000)(H:w.heap[n]?=some (.cells #[.string ⟨b.toArray⟩] 9)):
 Zc prog 223 #[u,SE n] w (Mz w<|fI<|dY t b):=by
 obtain⟨T,U,rfl⟩:=p.slice;have A:=Z p;have z:=Z H;generalize N:fI (dY t b)=o;have F:=Z N;unfold SE;go_in;go_wp2
 go_loopw [8] (λO wr=>∃(i:Nat),i<=t.a.length/\O=.int .i64 i/\Ze (qB w wr/\∀(j:Nat) (c:YX×Int),j<i->t.a[j]?=some c->c.1≠b)) (λa _=>t.a.length-(Zk a).toNat)
 exact⟨0,qO,rfl,qW,λj s M=>by omega⟩
 case round=>
  obtain⟨i,L,rfl,d⟩:=hrel;have h:=d.1;have l:=h.size;by_cases D:i<t.a.length
  .have r:t.a[i]?=some t.a[i]:=VE D;generalize t.a[i]=s at*;obtain⟨g,cap,J,R,P,Q⟩:=(A.aL λk hk=>h.block k hk).d r;cases J;have K:g<wr.heap.size:=by omega
   have C:wr.heap[n]?=some (.cells #[.string ⟨b.toArray⟩] 9):=(h.block n<|lB H).trans z;have y:=Z<|Um s.1 b s.2 C;have G:=Z r;by_cases q:s.1=b
   ·rw [Xy q]at y;have B:Ze<|o=(i:Int):=by
     unfold Ze;rw[<-F,so d.2 G q];rfl
    clear q;go_wp2_with fail;refine y.mono ?_;rintro e E⟨rfl,x⟩;have HB:=Z<|d.1.trans<|x.mono l;go_wp2;go_ret;exact⟨by rw[B];rfl,HB⟩
   rw[Xd q]at y;have I:Ze (∀(j:Nat) (c:YX×Int),j<i+1->t.a[j]?=some c->c.1≠b):=λj x M E=>by
    by_cases e:j=i
    .subst e;rw[G]at E;cases E;exact q
    exact d.2 j x (by omega) E
   go_wp2_with fail;refine y.mono ?_;rintro e V⟨rfl,B⟩;go_wp2;go_roundw;exact⟨i+1,by omega,by go_num,Z<|d.1.trans<|B.mono l,I⟩;simp[Zk];omega
  obtain rfl:i=t.a.length:=by omega
  have k:Ze<|o=-1:=by unfold Ze;rw[<-F,sk λj c g=>d.2 j c (VZ.1 g).1 g];rfl
  go_wp2;go_ret;exact⟨by rw[k];rfl,d.1⟩
def SF(t:bV)(b:YX)(h:n<w.heap.size)(g:w.cell? ⟨n,1,none⟩=some u)(a:br w w.heap.size 2 OT t.a u)(e:t.a.length<=1000):
 Zc prog 164 #[qP n,qT b] w (Mz w<|fI<|dY t b):=by
 have hB:qB w<|w.alloc<|.cells #[qT b] 9:=qA;have d:=Z<|Of t b (a.below hB) e<|aM _ _;have HB:=Z hB;obtain⟨j,k,rfl⟩:=a.slice;generalize i:fI (dY t b)=o at*;unfold SE at*;go_in;go_wp2_with fail;apply qR d;intro l c;go_wp2;go_ret;exact⟨rfl,Z<|HB.trans<|c.mono HB.size⟩
abbrev Sg:=Nat×aA×Zb
def KC(s:Sg):Y0:=[.int .i64 (s.1:Nat),s.2.2]
def br.q{c:List Sg}{v:Zb}(h:br w n 2 KC c v){s:Sg}(b:c[i]?=some s):∃g cap,v=.slice (some ⟨g,0,none⟩) c.length cap/\g<n /\
 w.cell? ⟨g,i*2,none⟩=some (.int .i64 (s.1:Nat))/\w.cell? ⟨g,i*2+1,none⟩=some s.2.2:=by
 obtain⟨a,cap,rfl,e⟩:=h;obtain⟨g,rfl,j,d⟩:=e (by rintro rfl;simp at b);exact⟨g,cap,rfl,j,d i s b 0 _ rfl,d i s b 1 _ rfl⟩
def OC(ob:Nat):Zb:=.func (.func 166) #[] #[.pointer<|some ⟨ob,0,none⟩]
def UC(k b:Nat)(a:Y8)(m c:Nat)(g:w.heap[n]?=some (.cells #[.int .i64 (b:Nat)] 3)):
 Zc prog 166 #[.agg #[.int .i64 (k:Nat),.slice a m c],.pointer<|some ⟨n,0,none⟩] w λe j=>e=.returned (.bool<|decide<|k=b)/\qB w j:=by
 have i:=lB g;have h:=bC g 0;simp at h;have HB:Ze<|qB w<|w.alloc<|.cells #[.int .i64 (k:Nat),.slice a m c] 275:=qA;by_cases d:k=b
 .have l:((k:Int)==(b:Int))=true:=by simp[d]
  rw[Xy d];clear d;go_in;go_wp2;go_ret;exact⟨rfl,HB⟩
 .have l:((k:Int)==(b:Int))=false:=by simp;omega
  rw[Xd d];go_in;go_wp2;go_ret;exact⟨rfl,HB⟩
def places(ss:List Sg):Y4:=ss.map (·.1)
def OD{b:List Sg}(k:Nat)(y:br w w.heap.size 2 KC b u)(S:∀s∈b,∃a m c,s.2.2=.slice a m c)(W:b.length<=1048577)(H:w.heap[n]?=some (.cells #[.int .i64 (k:Nat)] 3)):
 Zc prog 225 #[u,OC n] w (MC w<|(places b).contains k):=by
 obtain⟨X,Y,rfl⟩:=y.slice;have C:=Z y;have K:=Z S;have B:=Z H;generalize R:(places b).contains k=o;have G:=Z R;unfold OC;go_in;go_wp2
 go_loopw [8] (λT wr=>∃(i:Nat),i<=b.length/\T=.int .i64 i/\Ze (qB w wr/\∀(j:Nat) s,j<i->b[j]?=some s->s.1≠k)) (λa _=>b.length-(Zk a).toNat)
 exact⟨0,qO,rfl,qW,λj s A=>by omega⟩
 case round=>
  obtain⟨i,Q,rfl,p⟩:=hrel;have l:=p.1;have q:=l.size;by_cases r:i<b.length
  .have t:b[i]?=some b[i]:=VE r;have d:=VQ r;generalize b[i]=s at*;obtain⟨g,cap,O,V,U,M⟩:=(C.aL λk hk=>l.block k hk).q t;cases O;have P:g<wr.heap.size:=by omega
   obtain⟨a,m,c,N⟩:=K.o s d;rw[N]at M;have E:wr.heap[n]?=some (.cells #[.int .i64 (k:Nat)] 3):=(l.block n<|lB H).trans B;have z:=Z<|UC s.1 k a m c E;have L:=Z t;have I:=Z d;by_cases h:s.1=k
   ·rw [Xy h]at z;have D:Ze<|o=true:=by
     unfold Ze;rw[<-G,WM];exact VV.2 ⟨s,I,h⟩
    clear h;go_wp2_with fail;refine z.mono ?_;rintro e F⟨rfl,x⟩;have HB:=Z<|p.1.trans<|x.mono q;go_wp2;go_ret;exact⟨i,rfl,by rw[D];simp,by omega,HB⟩
   rw[Xd h]at z;have J:Ze (∀(j:Nat) s,j<i+1->b[j]?=some s->s.1≠k):=λj x A F=>by
    by_cases e:j=i
    .subst e;rw[L]at F;cases F;exact h
    exact p.2 j x (by omega) F
   go_wp2_with fail;refine z.mono ?_;rintro e w1⟨rfl,D⟩;go_wp2;go_roundw;exact⟨i+1,by omega,by go_num,Z<|p.1.trans<|D.mono q,J⟩;simp[Zk];omega
  obtain rfl:i=b.length:=by omega
  have d:Ze<|o=false:=by
   unfold Ze;rw[<-G];cases hc:(places b).contains k with
   |false=>rfl
   |true=>
    rw[WM]at hc;obtain⟨s,hs,h⟩:=VV.1 hc;obtain⟨j,A,rfl⟩:=Xe hs;exact absurd h<|p.2 j _ A<|VE A
  go_wp2;go_ret;exact⟨-1,rfl,by rw[d];simp,by omega,p.1⟩
def GV{d:List Sg}(k:Nat)(b:br w w.heap.size 2 KC d u)(l:∀s∈d,∃a m c,s.2.2=.slice a m c)(j:d.length<=1048577)(i:w.heap[n]?=some (.cells #[qI (k:Nat)] 3)):
 Zc prog 165 #[u,OC n] w (qF (.bool<|(places d).contains k) w):=by
 have h:=Z<|OD k b l j i;obtain⟨r,t,rfl⟩:=b.slice;generalize p:(places d).contains k=o at*;unfold OC at*;go_in;go_wp2_with refine h.mono ?_;rintro e x⟨q,rfl,rfl,hk,g⟩;go_wp2;go_ret;exact⟨rfl,g⟩
def Gu(a:YW):∀u∈c_ a,u.oneCell'=true:=by intro u d;obtain⟨c,_,b⟩:=XJ.1 d;simp[vC]at b;obtain rfl|rfl|rfl:=b<;>rfl
def Ie{v:Zb}(A:oJ w w.heap.size I v)(D:I.length<=1000):
 Zc prog 168 #[v] w (DM w I):=by
 obtain⟨g,c,rfl,x,t⟩:=A;obtain⟨B,hi,e,h,i⟩:=V5 mK;have p:Ze (∀j u,(c_ I)[j]?=some u->(w.alloc<|.cells #[] 34).cell? ((⟨g,0,none⟩:Addr).add j)=some u):=λj u y=>by rw[addr_add];have:=t j u y;rw[VK<|V2 _ _ _ x];exact this
 have o:=Z<|Gu I;have q:Ze<|(c_ I).length=I.length*3:=kB I;have z:=λ(w:Za) (a:Y8) (n c:Nat)=>XY (P:=prog) w 32 _ a n c 0 0 underlying32;go_in;go_wp2_with (at_builtin;refine VS _ rfl (.tmp 5) (.tmp 6) 32 rfl w.heap.size 34 B _ 3 32 underlying32 hi e h i rfl (by decide) _ _ _ rfl (Dn w 34 3) ⟨g,0,none⟩ I.length c (c_ I) rfl ?c0 ?c1 ?c2 ?c3 ?c4 ?c5 ?_)
 case c0=>exact q
 case c1=>exact p
 case c2=>exact o
 case c3=>unfold Zj;omega
 case c4=>omega
 case c5=>simp
 intro E C b d l;have HB:Ze<|qB w C:=a_ qA d (λk hk=>by simp[Zb.ownBlock]at hk;omega) (by simp);have r:=Z b;go_wp2;go_ret;refine⟨HB,_,rfl,?_⟩;have:=r.o;simpa using this
def Ba{e:ay->Zb->Y0}:∀{aN:Y3}{c:Y0},rG w n e aN c->∃b:List<|ay×Zb,b.map (·.1)=aN/\c=b.flatMap (λp=>e p.1 p.2)/\∀p∈b,cE w n p.1.aW p.2
 |[],c,h=>⟨[],rfl,h,by simp⟩
 |it::aN,c,⟨a,rest,h1,h2,h3⟩=>by
  obtain⟨b,g,h,i⟩:=Ba h3;refine⟨(it,.pointer a)::b,by simp[g],by rw[h1,h];simp,λp d=>?_⟩;obtain rfl|d:=V8.1 d
  .exact h2
  exact i p d
def pK{e:Zf}{d:ay->Zb->Y0}{b:Y3}{v:Zb}(h:iY w n k e i d b v):∃a:List<|ay×Zb,a.map (·.1)=b/\w.ownsRow k e i v a.length (a.flatMap λp=>d p.1 p.2)/\∀p∈a,xW w w.heap.size p.1.aW p.2:=by obtain⟨r,g,j⟩:=h;obtain⟨a,c,o,q⟩:=Ba j;refine⟨a,c,?_,λp l=>(q p l).c qZ⟩;rw[<-o,<-VL (f:=λp:ay×Zb=>p.1),c];exact g
def Dg{b:Y3}{v:Zb}(h:iY w n k 199 1 Qy b v):∃c:List<|aA×Zb,c.map (·.1)=b.map (·.aW)/\jU w w.heap.size c v:=by
 obtain⟨a,i,j,l⟩:=pK h;refine⟨a.map λp=>(p.1.aW,p.2),by rw[<-i];simp,?_,λp d=>?_⟩
 ·refine c7 (f:=λp:aA×Zb=>[p.2]) (λ_=>rfl) (base:=k) (e:=199) ?_ qZ;have e:(a.map λp=>(p.1.aW,p.2)).flatMap (λp:aA×Zb=>[p.2])=a.flatMap (λp=>Qy p.1 p.2):=by
   rw[Yt];rfl
  rw[e,VL];exact j
 obtain⟨q,g,rfl⟩:=VV.1 d;exact l q g
def NC{a:Y3}{v:Zb}(h:iY w n k 328 2 Qx a v):∃ks:List Key,ks.map (·.1)=a.map (·.aW)/\pG ks=a.map (·.eC)/\Mu w w.heap.size ks v:=by
 obtain⟨b,c,i,j⟩:=pK h;refine⟨b.map λp=>(p.1.aW,p.2,p.1.eC),by rw[<-c];simp,by rw[<-c];simp[pG],?_,λp d=>?_⟩
 ·refine c7 (f:=IU) (λ_=>rfl) (base:=k) (e:=328) ?_ qZ;have e:(b.map λp=>(p.1.aW,p.2,p.1.eC)).flatMap IU=b.flatMap (λp=>Qx p.1 p.2):=by
   rw[Yt];rfl
  rw[e,VL];exact i
 obtain⟨q,g,rfl⟩:=VV.1 d;exact j q g
def NB{s:aX}{v:Zb}(h:iY w n k 97 2 SL s.c v):w.ownsRow k 97 2 v (fJ s).length<|EJ<|fJ s:=by
 obtain⟨b,a,e,g⟩:=pK h;have c:(fJ s).length=b.length:=by rw[fJ,<-a];simp
 have d:EJ (fJ s)=b.flatMap (λp=>SL p.1 p.2):=by rw[EJ,fJ,<-a,Ww,Yt];rfl
 rw[c,d];exact e
def ND{s:aX}{v:Zb}(h:iY w n k 324 4 EA s.b v)(B:eL s)(x:s.aC=115)(z:i4 w)(u: 9<w.heap.size):∃j:List<|ay×Zb,j.map (·.1)=s.b/\x5 w j v:=by
 obtain⟨D,d,i,C⟩:=pK h;obtain⟨a,r,e,q,_,A,c⟩:=B.b x;refine⟨D,d,c7 (f:=Rc) (λ_=>rfl) i qZ,C,λp y=>?_,?_,λE G F o=>?_,z,u⟩
 .have g:p.1∈s.b:=by rw[<-d];exact V0 y
  rw[e]at g;obtain b|b:=V8.1 g
  .rw[b];exact .inl q
  exact .inr<|c _ b
 .have:=Wd List.length d;rw[e]at this;simp at this;omega
 obtain⟨g,l,b,t⟩:=cz i;rw[o]at b;cases b;exact t
def Il{s:aX}(h:Ae w k i s n)(d:eL s)(c:s.aC=115)(C:s.all=false->s.c≠[])(B:i4 w)(z: 9<w.heap.size):∃b G ks u x v o,Al w n s b G ks u x v o:=by
 obtain⟨_,h⟩:=h;rw[VF<|by omega,VF<|by omega,VF<|by omega,VF<|by omega]at h;obtain⟨u,x,v,o,j,a,D,l,A⟩:=h;obtain⟨b,t,y⟩:=ND D d c B z;obtain⟨ks,p,q,r⟩:=NC A;cases ha:s.all with
 |true=>
  rw[ha,VG rfl]at a;exact⟨b,[],ks,u,x,v,o,j,y,t,λ_=>a,λe=>(by rw[ha]at e;cases e),l.c qZ,r,p,q,d,c⟩
 |false=>
  rw[ha,VF<|by simp]at a;obtain⟨F,g,E⟩:=Dg a;refine⟨b,F,ks,u,x,v,o,j,y,t,λe=>by(rw[ha]at e;cases e),λ_=>⟨E,g,λe=>?_⟩,l.c qZ,r,p,q,d,c⟩;rw[e]at g;exact C ha<|Xs.1 g.symm
def GJ(x:ai):∀(row:YW)(k:Nat),k<row.length->(((c_ row).set (k*3)<|qI x.aC).set (k*3+1)<|qI x.n).set (k*3+2) (qT x.s)=c_ (row.set k x)
 |[],k,h=>by simp at h
 |r::row,0,_=>by simp[c_,vC]
 |r::row,k+1,h=>by
  have e:∀l:YW,c_ (r::l)=qI r.aC::qI r.n::qT r.s::c_ l:=λl=>by simp[c_,vC]
  rw[Yh,e,e,<-GJ x row k (by simpa using h)];rw[show(k+1)*3=k*3+1+1+1 by omega];simp only[Yh,show k*3+1+1+1+1=(k*3+1)+1+1+1 by omega,show k*3+1+1+1+2=(k*3+2)+1+1+1 by omega]
def xB(w:Za)(g o:Nat)(x:ai):Za:=((w.setCell ⟨g,o,none⟩<|qI x.aC).setCell ⟨g,o+1,none⟩<|qI x.n).setCell ⟨g,o+2,none⟩<|qT x.s
def BA{c k:Nat}{row:YW}{x:ai}(h:w.ownsRow i 34 3 (qL j n c) row.length<|c_ row)(o:k<row.length):(xB w j (k*3) x).ownsRow i 34 3 (qL j n c) (row.set k x).length<|c_<|row.set k x:=by
 obtain⟨u,d⟩:=h;obtain⟨b,_⟩|⟨t,cap,a,r,e,l,g,p,hs,q⟩:=d
 .cases b
 cases r;refine⟨by rw[kB],.inr ⟨j,c,_,by rw[Wu],e,bS (bS (bS l _ _) _ _) _ _,by rw[Wu];exact g,p,by simp[hs],?_⟩⟩;rw[<-GJ x row k o,<-q];simp[List.take_set]
def Ii{s:aX}(h:Ae w k i s n)(c:s.aC=99):∃cv,w.heap[n]?=some (.cells #[qT s.table,cv] 190)/\w.ownsRow i 97 2 cv (fJ s).length (EJ<|fJ s):=by obtain⟨_,h⟩:=h;rw[VG c]at h;obtain⟨v,a,b⟩:=h;exact⟨v,a,NB b⟩
def Ik{s:aX}(h:Ae w k i s n)(e:s.aC=105):∃b a,w.heap[n]?=some (.cells #[qT s.table,b] 194)/\a.map (·.1)=s.c.map (·.aW)/\jU w w.heap.size a b:=by obtain⟨_,h⟩:=h;rw[VF<|by omega,VG e]at h;obtain⟨v,c,d⟩:=h;obtain⟨a,g,j⟩:=Dg d;exact⟨v,a,c,g,j⟩
def Ij{s:aX}(h:Ae w k i s n)(c:s.aC=100):∃v,w.heap[n]?=some (.cells #[qT s.table,v] 201)/\xW w w.heap.size s.d v:=by obtain⟨_,h⟩:=h;rw[VF<|by omega,VF<|by omega,VG c]at h;obtain⟨v,a,b⟩:=h;exact⟨v,a,b.c qZ⟩
def Vm(p:ay×Zb):Y0:=Tj p.1 p.2
def CW(w:Za)(hi:Nat)(ps:List<|ay×Zb)(v:Zb):Prop:=br w hi 2 Vm ps v/\∀p∈ps,xW w hi p.1.aW p.2
def CW.below{v:Zb}(h:CW w w.heap.size r v)(a:qB w W):CW W W.heap.size r v:=⟨h.1.below a,λp b=>((h.2 p b).aL λk hk=>a.block k hk).more a.size⟩
def Im{s:aX}(h:Ae w k i s n)(e:s.aC=117):∃u v a,w.heap[n]?=some (.cells #[qT s.table,u,v] 213)/\a.map (·.1)=s.c/\CW w w.heap.size a u/\xW w w.heap.size s.d v:=by obtain⟨_,h⟩:=h;rw[VF<|by omega,VF<|by omega,VF<|by omega,VG e]at h;obtain⟨u,v,b,c,d⟩:=h;obtain⟨a,g,j,l⟩:=pK c;exact⟨u,v,a,b,g,⟨c7 (f:=Vm) (λ_=>rfl) j qZ,l⟩,d.c qZ⟩
def sX{t:bV}{a:Y4}{b:ay}{c:Y3}(h:dY t b.name=none):b_ t a (b::c)=.error 2:=by rw[b_,h]
def rD{t:bV}{a:Y4}{b:ay}{c:Y3}(h:dY t b.name=some k)(d:a.contains k=true):b_ t a (b::c)=.error 2:=by rw[b_,h];simp only[VG d]
def uL{t:bV}{a:Y4}{b:ay}{c:Y3}{e:Nat}(h:dY t b.name=some k)(d:a.contains k=false)(g:aT (ax t.name t) b.aW ((t.a.getD k ([],0)).2)=some e):b_ t a (b::c)=.error e:=by rw[b_,h];simp only[d,WJ,if_false,g]
def sY{t:bV}{a:Y4}{b:ay}{c:Y3}(h:dY t b.name=some k)(d:a.contains k=false)(e:aT (ax t.name t) b.aW ((t.a.getD k ([],0)).2)=none):b_ t a (b::c)=b_ t (a++[k]) c:=by rw[b_,h];simp only[d,WJ,if_false,e]
structure rI(w wr:Za)(ab:YY)(sv:Zb)(sgs:List Sg):Prop where
 d:qB w wr
 own:wr.ownsRow w.heap.size 275 2 sv sgs.length<|sgs.flatMap KC
 e:∀s∈sgs,lM wr (ph wr sv) ab s.2.1 s.2.2
def rI.below{wr:Za}{a:List Sg}(h:rI w wr F u a)(b:qB wr W):rI w W F u a:=
 ⟨h.d.trans<|b.mono h.d.size,aB b h.own,λs hs=>(iE.aL (h.e s hs) λk hk=>(hk.below b).2).mono λk hk=>(hk.below b).1⟩
def rI.push{u:Zb}{a:List Sg}{k:Nat}{t:aA}(h:rI w W F z a)(e:lM W (ph W z) F t u)(c:x.ownsRow w.heap.size 275 2 A (a.length+1)<|a.flatMap KC++KC (k,t,u))(b:W.grownBy x z.ownBlock)(d:A.ownBlock=z.ownBlock\/A.ownBlock=some W.heap.size):rI w x F A<|a++[(k,t,u)]:=by
 refine⟨a_ h.d b (λk hk=>(h.own.lt k hk).1) h.d.size,by simpa using c,λs hs=>?_⟩;obtain hs|hs:=V1.1 hs
 .exact(iE.aL (h.e s hs) λk hk=>(ph.push b d hk).2).mono (λk hk=>(ph.push b d hk).1)
 simp at hs;subst hs;exact(iE.aL e λk hk=>(ph.push b d hk).2).mono (λk hk=>(ph.push b d hk).1)
def vW(w:Za)(t:bV)(aN:Y3)(e:Zg)(w':Za):Prop:=qB w w' /\
 ((∃er:Nat,b_ t [] aN=.error er/\(er=2\/er=3)/\e=.returned (.tuple #[qN,qI (er:Nat)])) \/
  (∃sgs v,b_ t [] aN=.ok (places sgs)/\sgs.map (λs=>s.2.1)=aN.map (·.aW)/\e=.returned (.tuple #[v,qI 0])/\rI w w' (ax t.name t) v sgs))
def E6:Prop:=∀(lo:Nat)(w:Za)(M:Y7)(b n:Nat)(lay:Zn)(D:aI)(s:aX)(ps:List<|ay×Zb)(u v:Zb),xX w M b lay D->w.heap[n]?=some (.cells #[qT s.table,u,v] 213)->ps.map (·.1)=s.c->CW w w.heap.size ps u->xW w w.heap.size s.d v->eL s->s.aC=117->lo<=w.heap.size ->
 Zc prog 68 #[qP b,qP n] w (nj lo w M b<|cS D s)
structure nu(k:Nat)(w w':Za):Prop where
 os:w'.os=w.os
 tape:w'.tape=w.tape
 output:w'.output=w.output
 size:w'.heap.size=w.heap.size
 block:∀j,j≠k->w'.heap[j]?=w.heap[j]?
def nu.refl(k:Nat)(w:Za):nu k w w:=⟨rfl,rfl,rfl,rfl,λ_ _=>rfl⟩
def nu.set(h:nu k w W)(o:Nat)(v:Zb):nu k w<|W.setCell ⟨k,o,none⟩ v:=
 ⟨h.os,h.tape,h.output,by rw[size_set];exact h.size,λj a=>by rw[VN _ _ _ _ a];exact h.block j a⟩
def fW.boxed{o:Obj}{b:Zn}(h:fW n (w.alloc o) G i K W H b)(a:nu w.heap.size W x)(c:H w.heap.size->x.heap[w.heap.size]?=W.heap[w.heap.size]?):fW n w G i K x H b:=by
 have hk:∀k,H k->x.heap[k]?=W.heap[k]?:=λk hk=>by
  by_cases e:k=w.heap.size
  .subst e;exact c hk
  exact a.block k e
 refine⟨h.a.aL (W_ a.size.symm) hk,h.sub,h.new,a.os.trans h.aL.os,a.tape.trans h.aL.tape,a.output.trans h.aL.output,?_,λk hk=>?_⟩
 .have:=h.aL.size;simp at this;rw[a.size];omega
 rw[a.block k<|by omega,h.aL.block k ⟨by simp;omega,hk.2⟩,V2 _ _ _ hk.1]
def rP(base:Nat)(w':Za)(M M':Y7)(rows:List YW)(rv:Zb):Prop:=∃qs:YZ,rows=qs.map (·.1)/\w'.ownsRow base 32 1 rv qs.length (df qs)/\fP w' base qs/\(rv=qN\/M'=M)
def rP.nil(a:Nat)(c:Za)(M b:Y7):rP a c M b [] qN:=⟨[],rfl,nG,⟨by simp,.nil⟩,.inl rfl⟩
def ld(lo:Nat)(w:Za)(M:Y7)(b:Nat)(o:aI×iW)(e:Zg)(w':Za):Prop:=
 ∃rv M' lay',e=.returned (.tuple #[.agg #[rv,qI o.2.count],qI (o.2.err:Nat)])/\fW lo w M b o.1 w' M' lay'/\rP w.heap.size w' M M' o.2.rows rv
def PJ{s:aX}(h:s.aC=99):d_ K s=dk K s:=by unfold d_;rw[VG h]
def Nb{s:aX}(h:s.aC=105):d_ K s=dI K s:=by unfold d_;rw[VF<|by omega,VG h]
def AL{s:aX}(h:s.aC=100):d_ K s=dm K s:=by unfold d_;rw[VF<|by omega,VF<|by omega,VG h]
def AN{s:aX}(h:s.aC=117):d_ K s=cS K s:=by unfold d_;rw[VF<|by omega,VF<|by omega,VF<|by omega,VG h]
def AM{s:aX}(h:s.aC=115):d_ K s=fi K s:=by unfold d_;rw[VF<|by omega,VF<|by omega,VF<|by omega,VF<|by omega]
def yS(D:aI)(s:aX):(dk D s).2.rows=[]/\(dk D s).2.count=0:=by
 unfold dk;split
 .exact⟨rfl,rfl⟩
 split<;>exact⟨rfl,rfl⟩
def FW(D:aI)(s:aX):(dI D s).2.rows=[]:=by
 unfold dI;cases bO D s.table with
 |none=>rfl
 |some i=>
  simp only;split
  .rfl
  cases eI (s.c.map (·.aW)) ((ak D i).a.map (·.2))with
  |some e=>rfl
  |none=>
   simp only;cases bH [] [] (s.c.map (·.aW))with
   |error e=>rfl
   |ok row=>
    simp only;split<;>rfl
def FH(D:aI)(s:aX):(dm D s).2.rows=[]:=by
 unfold dm;cases bO D s.table with
 |none=>rfl
 |some i=>
  simp only;cases aT (ax (ak D i).name<|ak D i) (aK s.d) 3 with
  |some e=>rfl
  |none=>
   simp only;cases j9 (ax (ak D i).name<|ak D i) (aK s.d) (ak D i).rows<;>rfl
def Hq(D:aI)(s:aX):(cS D s).2.rows=[]:=by
 unfold cS;cases bO D s.table with
 |none=>rfl
 |some i=>
  simp only;cases b_ (ak D i) [] s.c with
  |error e=>rfl
  |ok ks=>
   simp only;cases aT (ax (ak D i).name<|ak D i) (aK s.d) 3 with
   |some e=>rfl
   |none=>
    simp only;cases cV (ax (ak D i).name<|ak D i) (aK s.d) ks (s.c.map (·.aW)) (ak D i).rows<;>rfl
def Tt(W:Za)(v:Zb):(Instr.typeAssert (.iface 131 v) 79 131 true).run prog W=.ok (.tuple #[v,.bool true]) W:=by kernel_rfl
def Tx(W:Za)(v:Zb):(Instr.typeAssert (.iface 133 v) 79 131 true).run prog W=.ok (.tuple #[.pointer none,.bool false]) W:=by kernel_rfl
def Ty(W:Za)(v:Zb):(Instr.typeAssert (.iface 133 v) 79 133 true).run prog W=.ok (.tuple #[v,.bool true]) W:=by kernel_rfl
def Tu(W:Za)(v:Zb):(Instr.typeAssert (.iface 135 v) 79 131 true).run prog W=.ok (.tuple #[.pointer none,.bool false]) W:=by kernel_rfl
def Tw(W:Za)(v:Zb):(Instr.typeAssert (.iface 135 v) 79 133 true).run prog W=.ok (.tuple #[.pointer none,.bool false]) W:=by kernel_rfl
def Tv(W:Za)(v:Zb):(Instr.typeAssert (.iface 135 v) 79 135 true).run prog W=.ok (.tuple #[v,.bool true]) W:=by kernel_rfl
def TE(W:Za)(v:Zb):(Instr.typeAssert (.iface 137 v) 79 131 true).run prog W=.ok (.tuple #[.pointer none,.bool false]) W:=by kernel_rfl
def TG(W:Za)(v:Zb):(Instr.typeAssert (.iface 137 v) 79 133 true).run prog W=.ok (.tuple #[.pointer none,.bool false]) W:=by kernel_rfl
def TF(W:Za)(v:Zb):(Instr.typeAssert (.iface 137 v) 79 135 true).run prog W=.ok (.tuple #[.pointer none,.bool false]) W:=by kernel_rfl
def TH(W:Za)(v:Zb):(Instr.typeAssert (.iface 137 v) 79 137 true).run prog W=.ok (.tuple #[v,.bool true]) W:=by kernel_rfl
def Tz(W:Za)(v:Zb):(Instr.typeAssert (.iface 139 v) 79 131 true).run prog W=.ok (.tuple #[.pointer none,.bool false]) W:=by kernel_rfl
def TB(W:Za)(v:Zb):(Instr.typeAssert (.iface 139 v) 79 133 true).run prog W=.ok (.tuple #[.pointer none,.bool false]) W:=by kernel_rfl
def TA(W:Za)(v:Zb):(Instr.typeAssert (.iface 139 v) 79 135 true).run prog W=.ok (.tuple #[.pointer none,.bool false]) W:=by kernel_rfl
def TD(W:Za)(v:Zb):(Instr.typeAssert (.iface 139 v) 79 137 true).run prog W=.ok (.tuple #[.pointer none,.bool false]) W:=by kernel_rfl
def TC(W:Za)(v:Zb):(Instr.typeAssert (.iface 139 v) 79 139 true).run prog W=.ok (.tuple #[v,.bool true]) W:=by kernel_rfl
abbrev jF:Obj:=.cells #[qN,qI 0] 36
def DV{j:Zn}{o:aI×iW}(h:pY w G k j K)(q:n<=w.heap.size)(t:o.2.rows=[])(l:Za)(r:∃i a,fW (w.heap.size+1) (w.alloc jF) G k o.1 l i a):
 l.heap[w.heap.size]?=some jF/\∀c,nu w.heap.size l c->ld n w G k o (.returned<|.tuple #[.agg #[qN,qI o.2.count],qI (o.2.err:Nat)]) c:=by
 obtain⟨i,a,b⟩:=r;have e:¬G w.heap.size:=λd=>by have:=h.lt _ d;omega
 have g:¬i w.heap.size:=λd=>by
  obtain p|p:=b.new _ d
  .exact e p
  omega
 refine⟨(b.aL.block _ ⟨by simp,e⟩).trans<|aM _ _,λc hs=>⟨_,i,a,rfl,(b.boxed hs λd=>absurd d g).low<|by omega,?_⟩⟩;rw[t];exact rP.nil _ _ _ _
def PA{lo:Nat}{i:Zn}{o:aI×iW}(h:pY w G n i K)(k:o.2.rows=[]/\o.2.count=0)(j:Za)(q:∃e a,fW lo (w.alloc jF) G n o.1 j e a):
 j.heap[w.heap.size]?=some jF/\∀b,nu w.heap.size j b->b.heap[w.heap.size]?=some jF->ld lo w G n o (.returned<|.tuple #[.agg #[qN,qI 0],qI (o.2.err:Nat)]) b:=by
 obtain⟨e,a,d⟩:=q;have g:¬G w.heap.size:=λp=>by have:=h.lt _ p;omega
 have l:=(d.aL.block _ ⟨by simp,g⟩).trans<|aM w jF;refine⟨l,λb hs c=>⟨_,e,a,by rw[k.2],d.boxed hs λ_=>by rw[c,l],?_⟩⟩;rw[k.1];exact rP.nil _ _ _ _
def yx{s:aX}(b:eL s)(a:s.aC=115)(h:ch K s=.error n):fi K s=(K,di n):=by rw[p9 b a,h]
def vH{s:aX}(b:eL s)(a:s.aC=115)(h:ch K s=.ok N):fi K s=(K,⟨N,0,0⟩):=by rw[p9 b a,h]
def rP.aL{w':Za}(h:rP n w G H N u)(g:∀k,n<=k->k<w.heap.size->w'.heap[k]?=w.heap[k]?)(e:i<=n):rP i w' G H N u:=by obtain⟨qs,j,c,b,l⟩:=h;refine⟨qs,j,bU (cN c λk a=>g k (c.lt k a).1 (c.lt k a).2) e,⟨λq d=>bU (cN (b.1 q d) λk a=>g k ((b.1 q d).lt k a).1 ((b.1 q d).lt k a).2) e,b.2⟩,l⟩
def GP{lo:Nat}{c:Zn}{rows:List YW}{rv:Zb}(h:pY w G n c K)(a:Zd (w.heap.size+1) (w.alloc jF) W)(g:rP (w.heap.size+1) W G G rows rv):
 W.heap[w.heap.size]?=some jF/\∀b,nu w.heap.size W b->ld lo w G n (K,⟨rows,0,0⟩) (.returned<|.tuple #[.agg #[rv,qI 0],qI 0]) b:=by
 have e:¬G w.heap.size:=λd=>by have:=h.lt _ d;omega
 have i:=a.size;simp at i;refine⟨(a.block _<|by omega).trans<|aM w jF,λb hs=>⟨rv,G,c,rfl,⟨h.aL (by rw[hs.size];omega) λk hk=>?_,λk hk=>hk,λk hk=>.inl hk,hs.os.trans a.os,hs.tape.trans a.tape,hs.output.trans a.output,by rw[hs.size];omega,λk hk=>?_⟩,?_⟩⟩
 .have:=h.lt k hk;rw[hs.block k<|by omega,a.block k<|by omega,V2 _ _ _ this]
 .have:=hk.1;rw[hs.block k<|by omega,a.block k<|by omega,V2 _ _ _ this]
 .exact g.aL (λk hk _=>hs.block k<|by omega)<|by omega
def Kx{lo:Nat}{c:Zn}{er:Nat}(h:pY w G n c K)(i:Zd (w.heap.size+1) (w.alloc jF) W):
 W.heap[w.heap.size]?=some jF/\∀a,nu w.heap.size W a->ld lo w G n (K,di er) (.returned<|.tuple #[.agg #[qN,qI 0],qI (er:Nat)]) a:=by
 have d:=GP (lo:=lo) (rows:=[]) (rv:=qN) h i<|rP.nil _ _ _ _;refine⟨d.1,λa hs=>?_⟩;obtain⟨rv,e,b,j,g,k⟩:=d.2 a hs;exact⟨_,e,b,rfl,g,rP.nil _ _ _ _⟩
def Le(X:dD){b:Nat}{l:Zn}{s:aX}(h:xX w G i l K)(B:Ae w j b s n)(E:eL s)(q:s.aC=105)(d:k<=w.heap.size):
 Zc prog 36 #[qP i,.iface 133<|qP n] w (ld k w G i<|dI K s):=by
 obtain⟨O,N,r,e,g⟩:=Ik B q;have a:qB w<|w.alloc jF:=qA;have z:=Z<|PX X (w.heap.size+1) s E q e (h.below a) (by simp) (bB a (lB r) r)<|g.below a;have x:=Z<|DV (o:=dI K s) h.a d<|FW K s;generalize dI K s=out at*;have L:=Tx (w.alloc jF)<|qP n;have M:=Ty (w.alloc jF)<|qP n;generalize ld k w G i out=p at*;go_in;go_wp2_with fail;apply qR z;intro H D;obtain⟨c,C⟩:=x.o H D;have P:=bC c;have I:=bF c 0;have J:=bF c 1;have F:=lB c;have y:=Z C;have A:=Z c;go_wp2_with fail;refine VI (v:=.tuple #[.agg #[qN,qI out.2.count],qI (out.2.err:Nat)]) ?_ rfl<|y _<|(((nu.refl _ _).set 1<|qI out.2.count).set 0 qN).set 1<|qI out.2.count;have j:=(bS (bS (bS A 1<|qI out.2.count) 0 qN) 1<|qI out.2.count);have t:=bC j 0;have u:=bC j 1;simp at t u;simp[Zh,results36,go_sem,t,u]
def Ld(X:dD){d b:Nat}{l:Zn}{s:aX}(h:xX w G j l K)(A:Ae w d b s n)(D:eL s)(e:s.aC=100)(g:i<=w.heap.size):
 Zc prog 36 #[qP j,.iface 135<|qP n] w (ld i w G j<|dm K s):=by
 obtain⟨v,q,E⟩:=Ij A e;have a:qB w<|w.alloc jF:=qA;have y:=Z<|PH X (w.heap.size+1) s (h.below a) (bB a (lB q) q) ((E.aL λk e=>a.block k e).more a.size) D (by simp);have u:=Z<|DV (o:=dm K s) h.a g<|FH K s;generalize dm K s=out at*;have L:=Tu (w.alloc jF)<|qP n;have M:=Tw (w.alloc jF)<|qP n;have N:=Tv (w.alloc jF)<|qP n;generalize ld i w G j out=p at*;go_in;go_wp2_with fail;apply qR y;intro H C;obtain⟨c,B⟩:=u.o H C;have O:=bC c;have I:=bF c 0;have J:=bF c 1;have F:=lB c;have x:=Z B;have z:=Z c;go_wp2_with fail;refine VI (v:=.tuple #[.agg #[qN,qI out.2.count],qI (out.2.err:Nat)]) ?_ rfl<|x _<|(((nu.refl _ _).set 1<|qI out.2.count).set 0 qN).set 1<|qI out.2.count;have d:=(bS (bS (bS z 1<|qI out.2.count) 0 qN) 1<|qI out.2.count);have r:=bC d 0;have t:=bC d 1;simp at r t;simp[Zh,results36,go_sem,r,t]
def Lg(U:E6){g b:Nat}{d:Zn}{s:aX}(h:xX w G j d K)(C:Ae w g b s n)(F:eL s)(e:s.aC=117)(l:i<=w.heap.size):
 Zc prog 36 #[qP j,.iface 137<|qP n] w (ld i w G j<|cS K s):=by
 obtain⟨u,v,L,r,p,H,I⟩:=Im C e;have a:qB w<|w.alloc jF:=qA;have A:=Z<|U (w.heap.size+1) (w.alloc jF) G j n d K s L u v (h.below a) (bB a (lB r) r) p (H.below a) ((I.aL λk e=>a.block k e).more a.size) F e (by simp);have y:=Z<|DV (o:=cS K s) h.a l<|Hq K s;generalize cS K s=out at*;have P:=TE (w.alloc jF)<|qP n;have Q:=TG (w.alloc jF)<|qP n;have R:=TF (w.alloc jF)<|qP n;have S:=TH (w.alloc jF)<|qP n;generalize ld i w G j out=q at*;go_in;go_wp2_with fail;apply qR A;intro M E;obtain⟨c,D⟩:=y.o M E;have T:=bC c;have N:=bF c 0;have O:=bF c 1;have J:=lB c;have z:=Z D;have B:=Z c;go_wp2_with fail;refine VI (v:=.tuple #[.agg #[qN,qI out.2.count],qI (out.2.err:Nat)]) ?_ rfl<|z _<|(((nu.refl _ _).set 1<|qI out.2.count).set 0 qN).set 1<|qI out.2.count;have g:=(bS (bS (bS B 1<|qI out.2.count) 0 qN) 1<|qI out.2.count);have t:=bC g 0;have x:=bC g 1;simp at t x;simp[Zh,results36,go_sem,t,x]
def Lc{c a:Nat}{p:Zn}{s:aX}(h:xX w G j p K)(A:Ae w c a s n)(D:eL s)(g:s.aC=99)(B:i<=a)(l:a<=w.heap.size):
 Zc prog 36 #[qP j,.iface 131<|qP n] w (ld i w G j<|dk K s):=by
 obtain⟨cv,r,e⟩:=Ii A g;have b:qB w<|w.alloc jF:=qA;have z:=Z<|PC i D g a (h.below b).a (by simp;omega) (bB b (lB r) r) (aB b e) (λk g=>by have:=(e.lt k g).1;omega);have x:=Z<|PA (lo:=i) (o:=dk K s) h.a<|yS K s;generalize dk K s=out at*;have J:=Tt (w.alloc jF)<|qP n;generalize ld i w G j out=q at*;go_in;go_wp2_with fail;apply qR z;intro F C;obtain⟨(d:Ze _),(y:Ze _)⟩:=x.o F C;have L:=bC d;have H:=bF d 0;have I:=bF d 1;have E:=lB d;go_wp2;have c:=bS (bS d 0 qN) 1<|qI 0;simp at c;refine VI (v:=.tuple #[.agg #[qN,qI 0],qI (out.2.err:Nat)]) ?_ rfl<|y _ (((nu.refl _ _).set 0 qN).set 1<|qI 0) c;have t:=bC c 0;have u:=bC c 1;simp at t u;simp[Zh,results36,go_sem,t,u]
def Lf(X:dD)(E:tp k i)(F:k<=1048576){b l t:Nat}{N:Zn}{s:aX}(h:xX w G b N K)(Y:Ae w l t s n)(M:eL s)(I:s.aC=115)(hv:s.all=false->s.c≠[])
 (V:∀is rows,bP K [] [[]] is s.b=.ok rows->rows.length<=k)(W:s.a=true->vS)(J:s.e.length<=i)(z:s.a=true->kO w):
 Zc prog 36 #[qP b,.iface 139<|qP n] w (ld j w G b<|fi K s):=by
 obtain⟨ss,vs,ks,u,x,v,o,A⟩:=Il Y M I hv h.rules h.d.2;have d:qB w<|w.alloc jF:=qA;have T:=Z<|Pw X E F (h.below d).a (A.below d) V W J λe=>(z e).aL<|d.block _ (z e).lt;have q:=Z h.a;have D:Ze (∀c,ch K s=.error c->fi K s=(K,di c)):=λc=>yx M I;have r:Ze (∀rows,ch K s=.ok rows->fi K s=(K,⟨rows,0,0⟩)):=λrows=>vH M I;have a1:=Tz (w.alloc jF)<|qP n;have a2:=TB (w.alloc jF)<|qP n;have a3:=TA (w.alloc jF)<|qP n;have a4:=TD (w.alloc jF)<|qP n;have a5:=TC (w.alloc jF)<|qP n;go_in;go_wp2_with refine T.mono ?_;rintro e w1⟨g,P⟩;simp only[qB,WV]at g P;obtain⟨c,H,rfl⟩|⟨qs,rv,L,rfl,a,y⟩:=P
 .obtain⟨p,B⟩:=Kx (lo:=j) (er:=c) q g;rw[<-D c H]at B;have U:=bC p 0;have x1:=bC p 1;have ab:=bF p 0;have ad:=bF p 1;simp at U x1;have S:=lB p;have Q:=Z B;have R:=Z p;go_wp2_with fail;refine VI (v:=.tuple #[.agg #[qN,qI 0],qI (c:Nat)]) ?_ rfl<|Q _<|(((nu.refl _ _).set 0 qN).set 0 qN).set 1<|qI 0;have l:=(bS (bS (bS R 0 qN) 0 qN) 1<|qI 0);have C:=bC l 0;have O:=bC l 1;simp at C O;simp[Zh,results36,go_sem,C,O]
 .obtain⟨p,O⟩:=GP (lo:=j) (rows:=qs.map (·.1)) (rv:=rv) q g ⟨qs,rfl,a,y,.inr rfl⟩;rw[<-r _ L]at O;obtain⟨B,C,rfl⟩:=bN a;have x0:=bC p;have ac:=bF p 0;have ae:=bF p 1;have aa:=lB p;have S:=Z O;have U:=Z p;go_wp2_with fail;refine VI (v:=.tuple #[.agg #[.slice B qs.length C,qI 0],qI 0]) ?_ rfl<|S _<|(((nu.refl _ _).set 0<|.slice B qs.length C).set 0<|.slice B qs.length C).set 1<|qI 0;have l:=(bS (bS (bS U 0<|.slice B qs.length C) 0<|.slice B qs.length C) 1<|qI 0);have Q:=bC l 0;have R:=bC l 1;simp at Q R;simp[Zh,results36,go_sem,Q,R]
def Tl(D:aI)(s:aX):Prop:=(s.aC=117->E6)/\(s.aC=115->∃N L,tp N L/\N<=1048576/\(∀is rows,bP D [] [[]] is s.b=.ok rows->rows.length<=N)/\(s.a=true->vS)/\s.e.length<=L)
def VA(X:dD){a:Nat}{o:Zn}{s:aX}(h:xX w G i o K)(d:Ae w j a s n)(c:eL s)(x:s.aC=115->s.all=false->s.c≠[])(e:Tl K s)(g:k<=a)(b:a<=w.heap.size)(l:kO w):
 Zc prog 36 #[qP i,.iface (OY s.aC)<|qP n] w (ld k w G i<|d_ K s):=by
 obtain hk|hk|hk|hk|hk:=c.aC
 .rw[PJ hk,hk];exact Lc h d c hk g b
 .rw[Nb hk,hk];exact Le X h d c hk<|by omega
 .rw[AL hk,hk];exact Ld X h d c hk<|by omega
 .rw[AN hk,hk];exact Lg (e.1 hk) h d c hk<|by omega
 .obtain⟨N,L,p,q,r,t,u⟩:=e.2 hk;rw[AM hk,hk];exact Lf X p q h d c hk (x hk) r t u λ_=>l
def Nc(D:aI)(s:aX):(d_ D s).2.err≠0->(d_ D s).2.rows=[]/\(d_ D s).2.count=0:=by
 unfold d_ dk dI dm cS fi;repeat' split
 all_goals first
  |exact λ_=>⟨rfl,rfl⟩
  |exact λh=>absurd rfl h
structure Live(w:Za)(M:Y7)(b:Nat)(lay:Zn)(D:aI):Prop where
 ex:xX w M b lay D
 spell:iC w
 err:lJ w
 gs:¬M 1
 ge:¬M 8
 pow:kO w
 a:¬M 5
def iC.same(h:iC w)(b:W.heap[1]?=w.heap[1]?):iC W:=λk a=>by rw[VK b];exact h k a
def lJ.same(h:lJ w)(b:W.heap[8]?=w.heap[8]?):lJ W:=by obtain⟨d,c,a⟩:=h;exact⟨d,c,by rw[VK b];exact a⟩
def lJ.lt(h:lJ w): 8<w.heap.size:=by obtain⟨c,b,a⟩:=h;exact lt_of_cell a
def Live.below{a:Zn}(h:Live w G n a K)(b:qB w W):Live W G n a K:=
 ⟨h.ex.below b,h.spell.below b,h.err.below b,h.gs,h.ge,h.pow.aL<|b.block _ h.pow.lt,h.a⟩
def Live.step{e a:Zn}{g:aI}(h:Live w G n e K)(b:fW w.heap.size w G n g W H a):Live W H n a g:=by
 have c:∀k,k<w.heap.size->¬G k->¬H k:=λk hk j d=>by
  obtain i|i:=b.new k d
  .exact j i
  omega
 exact⟨⟨b.a,h.ex.rules.aL<|b.aL.block _ ⟨h.ex.d.2,h.ex.d.1⟩,c _ h.ex.d.2 h.ex.d.1,VT h.ex.d.2 b.aL.size⟩,h.spell.same<|b.aL.block _ ⟨h.spell.lt,h.gs⟩,h.err.same<|b.aL.block _ ⟨h.err.lt,h.ge⟩,c _ h.spell.lt h.gs,c _ h.err.lt h.ge,h.pow.aL<|b.aL.block _ ⟨h.pow.lt,h.a⟩,c _ h.pow.lt h.a⟩
def xZ(w:Za)(M:Y7)(b:Nat)(o:aI×iW)(e:Zg)(w':Za):Prop:=ld w.heap.size w M b o e w'
def Ms(D:aI)(l:YX):Prop:=∀s,bp l=some s->Tl D s
def yh{s:aX}(h:bp X=some s):fx K X=d_ K s:=by unfold fx;rw[h]
def yg(h:bp X=none):fx K X=(K,di 1):=by unfold fx;rw[h]
def PL{b:Zn}(h:pY w G n b K)(c:Zd (w.heap.size+1) (w.alloc jF) W):W.heap[w.heap.size]?=some jF/\∀a,nu w.heap.size W a->xZ w G n (K,di 1) (.returned<|.tuple #[.agg #[qN,qI 0],qI 1]) a:=
 Kx (lo:=w.heap.size) (er:=1) h c
def PK{r:Za}{u:Obj}{q b:Zn}{o:aI×iW}(h:pY w G n q K)(g:Zd (w.heap.size+1) (w.alloc jF) W)(a:fW (w.heap.size+1) W G n o.1 x H b)(d:nu w.heap.size x r):fW w.heap.size w G n o.1 (r.alloc u) H b:=by
 have p:=g.size;have z:=a.aL.size;simp at p;have l:¬G w.heap.size:=λc=>by have:=h.lt _ c;omega
 have j:¬H w.heap.size:=λc=>by
  obtain t|t:=a.new _ c
  .exact l t
  omega
 have A:=d.size;have hk:∀k,k≠w.heap.size->k<x.heap.size->(r.alloc u).heap[k]?=x.heap[k]?:=λk hk y=>by rw[V2 _ _ _<|by omega,d.block k hk]
 refine⟨a.a.aL (by simp;omega) λk c=>hk k (λe=>j<|e▸c)<|a.a.lt k c,a.sub,λk hk=>(a.new k hk).imp id λh=>by omega,d.os.trans<|a.aL.os.trans g.os,d.tape.trans<|a.aL.tape.trans g.tape,d.output.trans<|a.aL.output.trans g.output,by simp;omega,λk i=>?_⟩;have:=i.1;rw[hk k (by omega)<|by omega,a.aL.block k ⟨by omega,i.2⟩,g.block k<|by omega,V2 _ _ _ this]
def RU{d a:Zn}{g:aI}(h:pY w G n d K)(e:Zd (w.heap.size+1) (w.alloc jF) W)(j:fW k W G n g x H a):x.heap[w.heap.size]?=some jF:=by
 have c:=e.size;simp at c;have b:¬G w.heap.size:=λi=>by have:=h.lt _ i;omega
 rw[j.aL.block _ ⟨by omega,b⟩,e.block _<|by omega,aM]
def rP.slice(h:rP n w G H N u):∃a c,u=.slice a N.length c:=by obtain⟨qs,b,d,_⟩:=h;obtain⟨a,c,h⟩:=bN d;exact⟨a,c,by rw[h,b,VL]⟩
def Ng(L:lL)(X:dD){Q:Zn}(h:Live w G i Q K)(ht:Y.length<=1048576)(N:Ms K Y):
 Zc prog 18 #[qP i,qT Y] w (xZ w G i<|fx K Y):=by
 have C:qB w<|w.alloc jF:=qA;have W:=Z<|Ur L ⟨Y.toArray⟩ (by simpa[ByteArray.size]using ht) (h.below C).spell (h.below C).err;have B:=Z h;have I:=Z N;go_in;go_wp2_with refine W.mono ?_;rintro e w1⟨b,t⟩;simp only[qB,WV]at b t;cases hpp:bp Y with
 |none=>
  rw[hpp]at t;simp only at t;subst t;obtain⟨a,c⟩:=PL B.ex.a b;rw[<-yg hpp]at c;have n:=bC a 0;have o:=bC a 1;have p:=bF a 0;have q:=bF a 1;simp at n o;have l:=lB a;have j:=Z c;have k:=Z a;go_wp2_with fail;refine VI (v:=.tuple #[.agg #[qN,qI 0],qI 1]) ?_ rfl<|j _<|((nu.refl _ _).set 0 qN).set 1<|qI 0;have rb:=(bS (bS k 0 qN) 1<|qI 0);have d:=bC rb 0;have g:=bC rb 1;simp at d g;simp[Zh,results18,go_sem,d,g]
 |some s=>
  rw[hpp]at t;simp only at t;obtain⟨rb,n,rfl,aa,P⟩:=t;have E:=b.size;simp only[WV]at E;have p:qB w w1:=(qW.alloc qZ jF).trans<|b.mono (by omega);have A:=Z<|VA X (B.below p).ex P (ix hpp) (Cv hpp) (I s hpp) qZ E (B.below p).pow;have l:=Z<|Nc K s;have HEq:Ze<|fx K Y=d_ K s:=yh hpp;generalize S:d_ K s=out at*;have z:=Z b;go_wp2_with refine A.mono ?_;rintro e H⟨rv,F,c,rfl,j,r⟩;have y:=RU B.ex.a z j;have x0:=bC y;have ad:=bF y 0;have ae:=bF y 1;have ab:=lB y;have R:=Z y;obtain⟨u,x,O⟩:=r.slice;subst O;have ac:=j.aL.size;have o:Ze (∀d a,nu w.heap.size H a->rP w.heap.size (a.alloc d) G F out.2.rows (.slice u out.2.rows.length x)):=λd a g=>r.aL (λk hk M=>by rw[V2 _ _ _<|g.size▸M,g.block k<|by omega]) (by omega);have q:Ze (∀d a,nu w.heap.size H a->fW w.heap.size w G i out.1 (a.alloc d) F c):=λd a g=>PK B.ex.a z j g;by_cases J:out.2.err=0
  .have V:Ze (∀d a,nu w.heap.size H a->xZ w G i (fx K Y) (.returned<|.tuple #[.agg #[.slice u out.2.rows.length x,qI out.2.count],qI 0]) (a.alloc d)):=λd a g=>by rw[HEq];exact⟨_,F,c,by rw[J];rfl,q _ _ g,o _ _ g⟩
   rw[J];generalize xZ w G i (fx K Y)=D at*;go_wp2_with fail;refine VI (v:=.tuple #[.agg #[.slice u out.2.rows.length x,qI out.2.count],qI 0]) ?_ rfl<|V _ _<|((nu.refl _ _).set 0<|.slice u out.2.rows.length x).set 1<|qI out.2.count;have rb:=bA (bS (bS R 0<|.slice u out.2.rows.length x) 1<|qI out.2.count)<|.cells #[.slice u out.2.rows.length x,qI out.2.count] 36;have T:=bC rb 0;have U:=bC rb 1;simp at T U;simp[Zh,results18,go_sem,T,U]
  obtain⟨T,D⟩:=l.o J;have V:((out.2.err:Int) != 0)=true:=by simp;omega
  have U:Ze (∀d a,nu w.heap.size H a->xZ w G i (fx K Y) (.returned<|.tuple #[.agg #[qN,qI 0],qI (out.2.err:Nat)]) (a.alloc d)):=λd a g=>by rw[HEq];exact⟨_,F,c,by rw[D],q _ _ g,by rw[T];exact rP.nil _ _ _ _⟩
  clear o q j r A l y T D;generalize xZ w G i (fx K Y)=j at*;go_wp2_with fail;refine VI (v:=.tuple #[.agg #[qN,qI 0],qI (out.2.err:Nat)]) ?_ rfl<|U _ _<|((nu.refl _ _).set 0 qN).set 1<|qI 0;have rb:=bA (bS (bS R 0 qN) 1<|qI 0)<|.cells #[.slice u out.2.rows.length x,qI out.2.count] 36;have l:=bC rb 0;have o:=bC rb 1;simp at l o;simp[Zh,results18,go_sem,l,o]
structure pE(w:Za)(M:Y7)(w':Za)(M':Y7):Prop where
 aL:KP (λk=>k<w.heap.size/\¬M k) w w'
 new:∀k,M' k->M k\/w.heap.size<=k
def pE.refl(w:Za)(M:Y7):pE w M w M:=⟨KP.refl _ _,λk hk=>.inl hk⟩
def pE.below(M:Y7)(a:qB w W):pE w M W M:=⟨⟨a.os,a.tape,a.output,a.size,λk hk=>a.block k hk.1⟩,λk hk=>.inl hk⟩
def pE.not(h:pE w G W H)(d:k<w.heap.size)(c:¬G k):¬H k:=λa=>by
 obtain b|b:=h.new k a
 .exact c b
 omega
def pE.trans{C:Y7}(h:pE w G W H)(k:pE W H x C):pE w G x C:=by
 have b:=h.aL.size;refine⟨⟨k.aL.os.trans h.aL.os,k.aL.tape.trans h.aL.tape,k.aL.output.trans h.aL.output,Wf b k.aL.size,λi hi=>(k.aL.block i ⟨by omega,h.not hi.1 hi.2⟩).trans<|h.aL.block i hi⟩,λi hi=>?_⟩;obtain a|a:=k.new i hi
 .exact h.new i a
 exact .inr<|by omega
def tG{e:Zf}{v:Zb}{c:Y0}(h:w.ownsRow k e i v n c){j:Nat}{u:Zb}(a:c[j]?=some u):∃g cap,v=qL g n cap/\k<=g/\g<w.heap.size/\w.cell? ⟨g,j,none⟩=some u:=by
 obtain⟨rfl,l⟩|⟨g,cap,d,rfl,o,b,q,r,hs,p⟩:=h.2
 .have:=h.1;rw[l]at this;simp at this;subst this;simp at a
 refine⟨g,cap,rfl,o,lB b,?_⟩;rw[<-p,V6]at a;split at a
 .rw[bC b];simpa using a
 cases a
def Kb:(prog.info? 29).map (λi=>(i.zero,i.size,i.bytes))=some (some qN,1,24):=by kernel_rfl
def wM(d:Y_)(w:Za):(Zi 58 d).run prog w=.ok (.enter 58 d) w:=by
 have g:(f58.name == "runtime.NumGoroutine")=false:=by kernel_rfl
 have c: f58.body.isNone=false:=by kernel_rfl
 have a:¬f58.name = "runtime.NumGoroutine":=by simpa using g
 have b:¬f58.body=none:=by intro e;rw[e]at c;cases c
 simp[Zi,go_sem,func58,a,b]
structure rh(w:Za):Prop where
 spell:iC w
 err:lJ w
 rules:i4 w
 a: 9<w.heap.size
 pow:kO w
def Gt:ec []:=⟨by simp,by simp⟩
abbrev Io:Obj:=.cells #[qN] 77
def N8(b:Nat):Nat->Prop:=λk=>k=b
def Live.new(h:rh w):Live (w.alloc Io) (N8 w.heap.size) w.heap.size [] []:=by
 have a:qB w<|w.alloc Io:=qA;refine⟨⟨⟨λk hk=>?_,rfl,⟨qN,aM _ _,nG,λk hk=>(by cases hk)⟩,rfl,λi l t b=>(by simp at b),λi j l m _ b=>(by simp at b),Gt⟩,h.rules.aL<|a.block _ h.a,λe=>?_,?_⟩,h.spell.below a,h.err.below a,λe=>?_,λe=>?_,h.pow.aL<|a.block _ h.pow.lt,λe=>?_⟩
 .cases hk;simp
 .have c: 9=w.heap.size:=e;have:=h.a;omega
 .have:=h.a;simp;omega
 .have c: 1=w.heap.size:=e;have:=h.spell.lt;omega
 .have c: 8=w.heap.size:=e;have:=h.err.lt;omega
 have c: 5=w.heap.size:=e;have:=h.pow.lt;omega
def Vf(w:Za):Zc prog 14 #[] w λe a=>e=.returned (qP w.heap.size)/\a=w.alloc Io:=by go_in;go_wp2;go_ret;exact⟨rfl,rfl⟩
def uU(w:Za)(rows:List YW)(v:Zb):Prop:=∃a c,v=.slice a rows.length c/\rows.length<=c/\(rows≠[]->∃g o,a=some ⟨g,o,none⟩/\g<w.heap.size/\∀(i:Nat)(r:YW),rows[i]?=some r->∃u,w.cell? ⟨g,o+i,none⟩=some u/\br w w.heap.size 3 vC r u)
def uU.of{v:Zb}(h:rO w w.heap.size o v)(k:∀a n c,v=.slice a n c->n<=c):uU w (o.map (·.1)) v:=by
 obtain⟨⟨a,c,rfl,d⟩,e⟩:=h;refine⟨a,c,by rw[VL],by rw[VL];exact k _ _ _ rfl,λp=>?_⟩;obtain⟨g,rfl,l,j⟩:=d (by rintro rfl;simp at p);refine⟨g,0,rfl,l,λi r b=>?_⟩;rw[VO]at b;cases hq:o[i]? with
 |none=>rw[hq]at b;cases b
 |some q=>
  rw[hq]at b;cases b;have:=j i q hq 0 q.2 rfl;refine⟨q.2,by simpa using this,e q<|VY hq⟩
def uU.below{v:Zb}(h:uU w N v)(b:qB w W):uU W N v:=by obtain⟨a,c,e,q,j⟩:=h;refine⟨a,c,e,q,λt=>?_⟩;obtain⟨g,o,k,d,l⟩:=j t;refine⟨g,o,k,VT d b.size,λi r x=>?_⟩;obtain⟨u,n,p⟩:=l i r x;exact⟨u,by rw[b.cell d];exact n,p.below b⟩
def P8(a b:Int)(c:Y9)(w:Za):Sem.run prog (binOp .neq 34 (.agg #[qI a,qI b,.string c])<|.agg #[qI a,qI b,.string c]) w=.ok (.bool false) w:=by simp[go_sem]
structure App(w w':Za)(v v':Zb):Prop where
 os:w'.os=w.os
 tape:w'.tape=w.tape
 output:w'.output=w.output
 size:w.heap.size<w'.heap.size
 at_:(∃g n N cap,v=qL g n cap/\v'=qL g N cap/\∀k,k<w.heap.size->k≠g->w'.heap[k]?=w.heap[k]?)\/(v'.ownBlock=some (w.heap.size+1)/\∀k,k<w.heap.size->w'.heap[k]?=w.heap[k]?)
def App.block{v:Zb}(h:App w W v u)(b:k<w.heap.size)(c:v.ownBlock≠some k):W.heap[k]?=w.heap[k]?:=by
 obtain⟨g,n,N,cap,rfl,_,a⟩|⟨_,a⟩:=h.at_
 .exact a k b λe=>c (by rw[e];rfl)
 exact a k b
def App.own{v:Zb}(h:App w W v u):u.ownBlock=v.ownBlock\/u.ownBlock=some (w.heap.size+1):=by
 obtain⟨g,n,N,cap,rfl,rfl,b⟩|⟨a,_⟩:=h.at_
 .exact .inl rfl
 exact .inr a
def Pm{t e:Zf}{b:Nat}(M: prog.underlying t=some (.slice e))(x:(prog.info? e).map (λi=>(i.zero,i.size,i.bytes))=some (some z,j,b))(O:z.cells.size=j)(L:0<j)(I:b<=32){a:Nat}{v:Zb}{m:Nat}{E news:Y0}(h:w.ownsRow a e j v n E)(Y:a<=w.heap.size)(W:0<m)(C:news.length=m*j)(Q:∀u∈news,u.oneCell'=true)(hn:n+m<=100000000000)(D:Zf):
 ∃B o,(Builtin.append_ #[t,t] D #[v,qL w.heap.size m m]).run prog (w.alloc<|.cells news.toArray e)=.ok B o/\o.ownsRow a e j B (n+m) (E++news)/\App w o v B:=by
 obtain⟨i,hi,A,rfl,rfl⟩:=V5 x;have Z:(n+m)*i.bytes<=(n+m)*32:=Nat.mul_le_mul_left _ I;have G:=h.alloc<|.cells news.toArray e;have H:=cW w news e;obtain⟨B,o,K,R,p,X,q⟩:=run_append_own_at (P:=prog) (w.alloc<|.cells news.toArray e) a t D e i z _ _ M hi A rfl rfl O L v n E G ⟨w.heap.size,0,none⟩ m m news C H Q (by unfold Zj;omega) (by omega) (by simp;omega);have hs:w.heap.size<o.heap.size:=by have:=p.size;simp at this;omega
 have hk:∀k,k<w.heap.size->some k≠v.ownBlock->o.heap[k]?=w.heap[k]?:=λk d F=>by rw[p.block k (by simp;omega) F,V2 _ _ _ d]
 refine⟨B,o,K,R,p.os,p.tape,p.output,hs,?_⟩;obtain⟨rfl,rfl⟩|⟨g,cap,l,rfl,S,U,V,T,J,N⟩:=G.2
 .refine .inr ⟨?_,λk d=>hk k d λe=>by cases e⟩;obtain q|q:=q
  .obtain⟨rfl,d⟩|⟨g,cap,l,rfl,_⟩:=R.2
   .omega
   cases q
  rw[q];simp
 .by_cases c:n+m<=cap
  .have r:n*i.size+news.length<=l.size:=by rw[C,J,<-YU];exact Wy _ c
   have y:=run_append_room (P:=prog) _ t D e i M hi g n cap l U ⟨w.heap.size,0,none⟩ m m news C H Q c r;rw[K]at y;injection y with e1 e2;exact .inl ⟨g,n,n+m,cap,rfl,e1,λk d F=>hk k d λe=>F<|by injection e⟩
  have r:=run_append_grow (P:=prog) _ t D e i z M hi A ⟨g,0,none⟩ n cap E h.1 (G.cells (g:=g) rfl) ⟨w.heap.size,0,none⟩ m m news C H (by omega) (by omega)<|growslice_fits (by omega) (by omega);rw[K]at r;injection r with e1 e2;refine .inr ⟨by rw[e1];simp[Zb.ownBlock],λk d=>?_⟩;rw[e2];exact(V2 (w.alloc<|.cells news.toArray e).drew _ k (by show k<(w.alloc _).heap.size;simp;omega)).trans (V2 _ _ _ d)
def Dj{e:Zf}{mk:Nat->Y0}(x:∀n j,n<=j->(mk j).take (n*i)=mk n)(C:0<i){v:Zb}{m:Nat}(b:w.ownsRow 0 e i u m<|mk m)(P:w.ownsRow 0 e i v n<|mk n)(L:W.ownsRow 0 e i z j<|mk j)(M:App w W v z)(I:m<=j):W.ownsRow 0 e i u m<|mk m:=by
 obtain⟨g,_,_,cap,rfl,rfl,l⟩|⟨_,l⟩:=M.at_
 .by_cases o:u.ownBlock=some g
  .refine⟨b.1,.inr ?_⟩;obtain⟨rfl,_⟩|⟨H,a,F,rfl,_,q,p,O,y,_⟩:=b.2
   .cases o
   obtain rfl:H=g:=by simpa[Zb.ownBlock]using o
   obtain⟨h,_⟩|⟨Q,E,G,J,_,k,_,_,A,_⟩:=P.2
   .cases h
   cases J;rw[q]at k;cases k;have d:a=cap:=Nat.eq_of_mul_eq_mul_right C<|y.symm.trans A;subst d;obtain⟨h,_⟩|⟨R,Fg,c,K,_,r,N,t,B,D⟩:=L.2
   .cases h
   cases K;refine⟨H,a,c,rfl,qO,r,p,t,B,?_⟩;have:=x m j I;rw[<-D,XW,XE<|Wy _ I]at this;exact this
  exact cN b λk hk=>l k (b.lt k hk).2 λe=>o (by rw[<-e];exact hk)
 exact cN b λk hk=>l k (b.lt k hk).2
def mV(k:Nat):ai:=⟨-1-(k:Int),0,[]⟩
def Gn(k n:Nat):Y0:=c_<|List.replicate n<|mV k
def zO(mb n:Nat):Y0:=List.replicate n<|qL mb 1 1
def Km(k a b:Nat):Gn k (a+b)=Gn k a++Gn k b:=by simp only[Gn,c_,<-Xr,Ya]
def Kn(k n:Nat):(Gn k n).length=n*3:=by unfold Gn;rw[kB];simp
def NS(k n N:Nat)(h:n<=N):(Gn k N).take (n*3)=Gn k n:=by rw[show N=n+(N-n) by omega,Km,<-Kn k n,Yj]
def NR(a n N:Nat)(h:n<=N):(zO a N).take (n*1)=zO a n:=by simp[zO];omega
def B8(w:Za)(F:Y7)(c k:Nat)(v:Zb):Prop:=∃n,n<=2000000/\(∀b,v.ownBlock=some b->F b) /\
 (if c<2 then w.ownsRow 0 34 3 v n (Gn k n)else ∃mb,F mb/\w.heap[mb]?=some (.cells (vC<|mV k).toArray 34)/\w.ownsRow 0 32 1 v n (zO mb n))
def B8.aL{w':Za}{v:Zb}(h:B8 w G i k v)(l:∀b,G b->H b)(e:∀b,G b->w'.heap[b]?=w.heap[b]?):B8 w' H i k v:=by
 obtain⟨n,p,d,c⟩:=h;refine⟨n,p,λb a=>l b<|d b a,?_⟩;by_cases o:i<2
 .rw[VG o]at c ⊢;exact cN c λb a=>e b<|d b a
 rw[VF o]at c ⊢;obtain⟨g,j,q,r⟩:=c;exact⟨g,l g j,(e g j).trans q,cN r λb a=>e b<|d b a⟩
abbrev Sr(c:Nat):Zf:=if c<2 then 32 else 29
abbrev Vn(c:Nat):Zf:=if c<2 then 29 else 56
def idx(c j:Nat):Nat:=if c % 2=0 then j else j / 3
def Pf{α:Type}(f:Nat->α)(c:Nat)(x:α):Nat->α:=λd=>if d=c then x else f d
def yE{α:Type}(f:Nat->α)(c:Nat)(x:α):Pf f c x c=x:=VG rfl
def yF{α:Type}{f:Nat->α}(x:α)(h:k≠n):Pf f n x k=f k:=VF h
abbrev lp(came:Nat)(kv wv psv:Zb)(vs:Nat->Zb):Obj:=.cells #[qI (came:Nat),.bool false,kv,wv,psv,vs 0,vs 1,vs 2,vs 3] 66
structure j_(w:Za)(F:Y7)(wb came:Nat)(kv wv psv:Zb)(vs:Nat->Zb)(ls:Nat->Y0):Prop where
 box:w.heap[wb]?=some (lp came kv wv psv vs)
 own:∀c,c<4->w.ownsRow 0 (Sr c) 1 (vs c) (ls c).length (ls c)
 ap:∀c d k,c<4->d<4->(vs c).ownBlock=some k->(vs d).ownBlock=some k->c=d
 fix:∀k,F k->k<w.heap.size/\k≠wb/\∀c,c<4->(vs c).ownBlock≠some k
 full:∀c j v,c<4->(ls c)[j]?=some v->B8 w F c (idx c j) v
def LS(wb:Nat)(F:Y7)(vs:Nat->Zb):Nat->Prop:=λk=>k=wb\/F k\/∃c,c<4/\(vs c).ownBlock=some k
def j_.lt{b:Nat->Zb}{e:Nat->Y0}(h:j_ w G n i u z A b e)(a:LS n G b k):k<w.heap.size:=by
 obtain rfl|a|⟨c,d,a⟩:=a
 .exact lB h.box
 .exact(h.fix k a).1
 exact((h.own c d).lt k a).2
def j_.aL{w':Za}{g:Nat->Zb}{l:Nat->Y0}(h:j_ w G n i u z A g l)(p:w.heap.size<=w'.heap.size)(d:∀k,LS n G g k->w'.heap[k]?=w.heap[k]?):j_ w' G n i u z A g l:=
 ⟨(d n<|.inl rfl).trans h.box,λc b=>cN (h.own c b) λk e=>d k<|.inr<|.inr ⟨c,b,e⟩,h.ap,λk a=>⟨by have:=(h.fix k a).1;omega,(h.fix k a).2⟩,λc j v b o=>(h.full c j v b o).aL (λk h=>h) λk a=>d k<|.inr<|.inl a⟩
def j_.g{a:Nat->Zb}{d:Nat->Y0}(h:j_ w G n k u z A a d)(c:i<4):(a i).ownBlock≠some n:=λe=>by obtain⟨C,m,b⟩:=eX (h.own i c) e;exact gZ b h.box (by unfold Sr;split<;>decide) rfl
def j_.more{g:Nat->Zb}{l:Nat->Y0}(h:j_ w H n i u z A g l){G:Y7}(a:∀k,G k->k<w.heap.size/\¬LS n H g k):j_ w (λk=>H k\/G k) n i u z A g l:=
 ⟨h.box,h.own,h.ap,λk hk=>hk.elim (h.fix k) λd=>⟨(a k d).1,λe=>(a k d).2<|.inl e,λc b e=>(a k d).2<|.inr<|.inr ⟨c,b,e⟩⟩,λc j v b o=>(h.full c j v b o).aL (λk h=>.inl h) λ_ _=>rfl⟩
def j_.put{a:Nat}{b:Zb}{g:Nat->Zb}{q:Nat->Y0}(h:j_ w G n i u z A g q)(d:nu n w W)(x:W.heap[n]?=some (lp a B C b g)):j_ W G n a B C b g q/\pE w (LS n G g) W (LS n G g):=by have hk:∀k,k≠n->W.heap[k]?=w.heap[k]?:=λk h=>d.block k h;refine⟨⟨x,λc l=>cN (h.own c l) λk e=>hk k λr=>h.g l (by rw[<-r];exact e),h.ap,λk o=>by rw[d.size];exact h.fix k o,λc j v l t=>(h.full c j v l t).aL (λk h=>h) λk o=>hk k (h.fix k o).2.1⟩,⟨⟨d.os,d.tape,d.output,W_ d.size.symm,λk p=>hk k λe=>p.2<|.inl e⟩,λk hk=>.inl hk⟩⟩
def JT(a:Nat)(e g c d:Zb)(b:Nat->Zb)(h:n<4): #[qI (a:Nat),.bool false,e,g,c,b 0,b 1,b 2,b 3].setIfInBounds (5+n) d=#[qI (a:Nat),.bool false,e,g,c,Pf b n d 0,Pf b n d 1,Pf b n d 2,Pf b n d 3]:=by
 obtain rfl|rfl|rfl|rfl:n=0\/n=1\/n=2\/n=3:=by omega
 all_goals rfl
def j_.push{g:Nat->Zb}{x:Nat->Y0}(h:j_ w G n i u z A g x){c:Nat}(D:c<4)(F:W.ownsRow 0 (Sr c) 1 B ((x c).length+1)<|x c++[C])(a:App w W (g c) B)(O:B8 w G c (idx c (x c).length) C):
 W.heap[n]?=some (lp i u z A g)/\j_ (W.setCell ⟨n,5+c,none⟩ B) G n i u z A (Pf g c B) (Pf x c<|x c++[C])/\pE w (LS n G g) (W.setCell ⟨n,5+c,none⟩ B) (LS n G<|Pf g c B)/\∀k,k<w.heap.size->k≠n->(g c).ownBlock≠some k->(W.setCell ⟨n,5+c,none⟩ B).heap[k]?=w.heap[k]?:=by
 have P:=a.size;have K:=lB h.box;have E:=(a.block K<|h.g D).trans h.box;have L:B.ownBlock≠some n:=λe=>by
  obtain p|p:=a.own
  .rw[p]at e;exact h.g D e
  rw[p]at e;cases e;omega
 have H:∀k,k<w.heap.size->k≠n->(g c).ownBlock≠some k->(W.setCell ⟨n,5+c,none⟩ B).heap[k]?=w.heap[k]?:=λk l J N=>by rw[VN _ _ _ _ J];exact a.block l N
 have y:∀k,G k->(W.setCell ⟨n,5+c,none⟩ B).heap[k]?=w.heap[k]?:=λk o=>H k (h.fix k o).1 (h.fix k o).2.1<|(h.fix k o).2.2 c D;have q:∀d k,d<4->(Pf g c B d).ownBlock=some k->(d=c/\B.ownBlock=some k)\/(d≠c/\(g d).ownBlock=some k):=λd k _ e=>by
  by_cases hd:d=c
  .subst hd;rw[yE]at e;exact .inl ⟨rfl,e⟩
  rw[yF _ hd]at e;exact .inr ⟨hd,e⟩
 refine⟨E,⟨?_,λd hd=>?_,λd M k hd b l J=>?_,λk o=>⟨by rw[size_set];have:=(h.fix k o).1;omega,(h.fix k o).2.1,λd hd e=>?_⟩,λd j v hd t=>?_⟩,⟨⟨a.os,a.tape,a.output,by rw[size_set];omega,λk hk=>H k hk.1 (λe=>hk.2<|.inl e) λe=>hk.2<|.inr<|.inr ⟨c,D,e⟩⟩,λk hk=>?_⟩,H⟩
 .have:=bS E (5+c) B;rw[JT i u z A B g D]at this;exact this
 .by_cases p:d=c
  .subst p;rw[yE,yE,VH];exact cN F λk hk=>VN _ _ _ _ λe=>L (by have r:k=n:=e;rw[<-r];exact hk)
  rw[yF _ p,yF _ p];exact cN (h.own d hd) λk hk=>H k ((h.own d hd).lt k hk).2 (λe=>h.g hd (by rw[<-e];exact hk)) λe=>p<|h.ap d c k hd D hk e
 .obtain⟨rfl,p⟩|⟨Q,p⟩:=q d k hd l<;>obtain⟨rfl,r⟩|⟨R,r⟩:=q M k b J
  .rfl
  .obtain I|I:=a.own
   .rw[I]at p;exact h.ap _ _ k hd b p r
   rw[I]at p;cases p;have:=((h.own M b).lt _ r).2;omega
  .obtain I|I:=a.own
   .rw[I]at r;exact h.ap _ _ k hd b p r
   rw[I]at r;cases r;have:=((h.own d hd).lt _ p).2;omega
  exact h.ap _ _ k hd b p r
 .obtain⟨rfl,p⟩|⟨I,p⟩:=q d k hd e
  .obtain r|r:=a.own
   .rw[r]at p;exact(h.fix k o).2.2 d hd p
   rw[r]at p;cases p;have:=(h.fix _ o).1;omega
  exact(h.fix k o).2.2 d hd p
 .by_cases p:d=c
  .subst p;rw[yE]at t;by_cases I:j<(x d).length
   .rw[VU I]at t;exact(h.full d j v hd t).aL (λk h=>h) y
   have r:j=(x d).length:=by have:=bw t;simp at this;omega
   subst r;simp at t;subst t;exact O.aL (λk h=>h) y
  rw[yF _ p]at t;exact(h.full d j v hd t).aL (λk h=>h) y
 .obtain l|l|⟨d,hd,l⟩:=hk
  .exact .inl<|.inl l
  .exact .inl<|.inr<|.inl l
  obtain⟨rfl,p⟩|⟨I,p⟩:=q d k hd l
  .obtain r|r:=a.own
   .rw[r]at p;exact .inl<|.inr<|.inr ⟨d,hd,p⟩
   rw[r]at p;cases p;exact .inr<|by omega
  exact .inl<|.inr<|.inr ⟨d,hd,p⟩
def NO(a:n<4):(prog.info? (Sr n)).map (λi=>(i.zero,i.size,i.bytes))=some (some qN,1,24):=by
 obtain rfl|rfl|rfl|rfl:n=0\/n=1\/n=2\/n=3:=by omega
 .exact iN
 .exact iN
 .exact Kb
 exact Kb
def L7(a:n<4): prog.underlying (Vn n)=some (.slice<|Sr n):=by
 obtain rfl|rfl|rfl|rfl:n=0\/n=1\/n=2\/n=3:=by omega
 .exact underlying29
 .exact underlying29
 .exact underlying56
 exact underlying56
def j_.app{y:Nat->Zb}{C:Nat->Y0}(h:j_ w G n i z A B y C)(c:Nat)(x:c<4)(o:Nat)(t e:Zf)(S:o=5+c)(U:t=Vn c)(Q:e=Sr c){a:Y8}{D:Nat}(W:(C c).length<=90000000000)(R:B8 w G c (idx c (C c).length)<|.slice a j D)(L:Zf):
 ∃g p c5 q b r,(Builtin.append_ #[t,t] L #[y c,qL w.heap.size 1 1]).run prog (w.alloc<|.cells #[.slice a j D] e)=.ok (.slice g p c5) q/\q.heap[n]?=some (lp i z A B y)/\j_ (q.setCell ⟨n,o,none⟩<|.slice g p c5) G n i z A B b r/\(b c=.slice g p c5/\∀d,d≠c->b d=y d)/\r c=C c++[.slice a j D]/\(∀d,d≠c->r d=C d)/\pE w (LS n G y) (q.setCell ⟨n,o,none⟩<|.slice g p c5) (LS n G b)/\(∀E H v,B8 w G E H v->B8 (q.setCell ⟨n,o,none⟩<|.slice g p c5) G E H v)/\∀k,k<w.heap.size->¬LS n G y k->(q.setCell ⟨n,o,none⟩<|.slice g p c5).heap[k]?=w.heap[k]?:=by
 subst S U Q;obtain⟨X,q,T,l,P⟩:=Pm (L7 x) (NO x) rfl (by decide) (by decide) (h.own c x) qO (m:=1) (news:=[.slice a j D]) (by decide) rfl (λu K=>by simp at K;subst K;rfl) (by omega) L;obtain⟨g,p,c5,rfl⟩:=aF l;obtain⟨M,N,O,I⟩:=h.push x l P R;refine⟨g,p,c5,q,_,_,T,M,N,⟨yE _ _ _,λd hd=>yF _ hd⟩,yE _ _ _,λd hd=>yF _ hd,O,λE H v V=>V.aL (λk h=>h) λk F=>I k (h.fix k F).1 (h.fix k F).2.1<|(h.fix k F).2.2 c x,λk hk J=>I k hk (λe=>J<|.inl e) λe=>J<|.inr<|.inr ⟨c,x,e⟩⟩
structure Tq(w wr:Za)(l:Zb)(k i:Nat)(row:YW):Prop where
 d:KP (λb=>l.ownBlock≠some b) w wr
 a:wr.heap.size=w.heap.size
 own:wr.ownsRow 0 34 3 l (List.replicate i (mV k)++row.drop i).length<|c_<|List.replicate i (mV k)++row.drop i
def Tq.next{wr:Za}{c:Nat}(h:Tq w wr (qL j n c) k i I)(l:i<I.length):Tq w (xB wr j (i*3)<|mV k) (qL j n c) k (i+1) I:=by
 have e:(List.replicate i (mV k)++I.drop i).set i (mV k)=List.replicate (i+1) (mV k)++I.drop (i+1):=by rw[VJ l,Ws _ _<|by simp,YJ,X0,XL,XA,Wh];rfl
 have d:=BA (k:=i) (x:=mV k) h.own (by simp;omega);rw[e]at d;refine⟨⟨h.d.os,h.d.tape,h.d.output,by rw[xB,size_set,size_set,size_set];exact h.d.size,λb g=>?_⟩,by rw[xB,size_set,size_set,size_set];exact h.a,d⟩;have a:b≠j:=λe=>g (by rw[e];rfl);unfold xB;rw[VN _ _ _ _ a,VN _ _ _ _ a,VN _ _ _ _ a];exact h.d.block b g
def Bj(h:w.ownsRow 0 34 3 z n<|Gn k n)(r:n<=1000000)(m:Nat)(j:0<m)(p:m<=3)(i:Zf):
 ∃d e c5 c,(Builtin.append_ #[32,32] i #[z,qL w.heap.size m m]).run prog (w.alloc<|.cells (Gn k m).toArray 34)=.ok (.slice d e c5) c/\App w c z (.slice d e c5)/\c.ownsRow 0 34 3 (.slice d e c5) (n+m) (Gn k<|n+m)/\(∀u q,q<=n+m->w.ownsRow 0 34 3 u q (Gn k q)->c.ownsRow 0 34 3 u q (Gn k q)):=by
 obtain ⟨t,c,o,a,g⟩:=Pm underlying32 mK rfl (by decide) (by decide) h qO j (Kn k m) (λu b=>by
  unfold Gn c_ at b;rw[XJ]at b;obtain⟨x,_,b⟩:=b;simp[vC]at b
  obtain rfl|rfl|rfl:=b<;>rfl) (by omega) i
 rw[<-Km]at a;obtain⟨d,e,c5,rfl⟩:=aF a;exact⟨d,e,c5,c,o,g,a,λu q l b=>Dj (NS k) (by decide) b h a g l⟩
def App.d{v:Zb}(h:App w W v u):KP (λk=>k<w.heap.size/\v.ownBlock≠some k) w W:=⟨h.os,h.tape,h.output,Nat.le_of_lt h.size,λk hk=>h.block hk.1 hk.2⟩
def KP.go{P:Y7}(h:KP P w W)(k:KP G W x)(a:∀i,H i->P i/\G i):KP H w x:=⟨k.os.trans h.os,k.tape.trans h.tape,k.output.trans h.output,Wf h.size k.size,λi hi=>(k.block i (a i hi).2).trans<|h.block i (a i hi).1⟩
def DP(w:Za)(F:Y7)(wb came:Nat)(kv wv psv:Zb)(vs:Nat->Zb)(ls:Nat->Y0)(H:Y7)(c n:Nat)(e:Zg)(w':Za):Prop:=e=.returned (.tuple #[])/\∃F' vs' ls',j_ w' F' wb came kv wv psv vs' ls'/\(ls' c).length=(ls c).length+n/\(ls'<|c+1).length=(ls<|c+1).length+3*n/\(∀d,d≠c->d≠c+1->ls' d=ls d)/\pE w (λk=>LS wb F vs k\/H k) w' (LS wb F' vs')
def j_.grow{H:Y7}{d:Nat->Zb}{l:Nat->Y0}(h:j_ w G n i u z A d l)(j:∀k,H k->k<w.heap.size/\¬LS n G d k)(b:KP (λk=>k<w.heap.size/\¬H k) w W):
 j_ W (λk=>G k\/(H k\/(w.heap.size<=k/\k<W.heap.size))) n i u z A d l/\pE w (λk=>LS n G d k\/H k) W (LS n (λk=>G k\/(H k\/(w.heap.size<=k/\k<W.heap.size))) d):=by
 have o:j_ W G n i u z A d l:=h.aL b.size λk g=>b.block k ⟨h.lt g,λc=>(j k c).2 g⟩;refine⟨o.more λk p=>p.elim (λc=>⟨VT (j k c).1 b.size,(j k c).2⟩) λq=>⟨q.2,λg=>by have:=h.lt g;omega⟩,⟨⟨b.os,b.tape,b.output,b.size,λk a=>b.block k ⟨a.1,λc=>a.2<|.inr c⟩⟩,λk a=>?_⟩⟩;obtain e|(e|e|e)|e:=a
 .exact .inl<|.inl<|.inl e
 .exact .inl<|.inl<|.inr<|.inl e
 .exact .inl<|.inr e
 .exact .inr e.1
 .exact .inl<|.inl<|.inr<|.inr e
def LV{v:Zb}{i:Nat}(h:w.ownsRow 0 34 3 v I.length<|c_ I)(e:i<I.length):∃g cap x,v=qL g I.length cap/\g<w.heap.size/\w.cell? ⟨g,i*3,none⟩=some (qI<|ai.aC x)/\w.cell? ⟨g,i*3+1,none⟩=some (qI x.n)/\w.cell? ⟨g,i*3+2,none⟩=some (qT x.s)/\∀o,w.frozen? ⟨g,o,none⟩=false:=by
 have p:I[i]?=some I[i]:=VE e;have d:∀j u,(vC I[i])[j]?=some u->(c_ I)[i*3+j]?=some u:=λj u n=>nz vC 3 (λ_=>rfl) I i j I[i] u p n;obtain⟨rfl,q⟩|⟨g,cap,c,rfl,r,b,_,_,_,l⟩:=h.2
 .omega
 have a:∀k u,(c_ I)[k]?=some u->c[k]?=some u:=λk u hk=>by
  rw[<-l,V6]at hk;split at hk
  .simpa using hk
  cases hk
 exact⟨g,cap,I[i],rfl,lB b,(bC b _).trans<|a _ _<|d 0 _ rfl,(bC b _).trans<|a _ _<|d 1 _ rfl,(bC b _).trans<|a _ _<|d 2 _ rfl,bF b⟩
abbrev Kl(k:Nat):Obj:=.cells #[qI<|-1-(k:Int),qI 0,.string ⟨#[]⟩] 34
def j_.four{b:Nat->Zb}{T:Nat->Y0}(h:j_ w G n i u z A b T)(c o a:Nat)(t e:Zf)(C:c=0\/c=2)(ho:o=5+c)(af:a=6+c)(S:t=Vn c)(R:e=Sr c)(hk:(T c).length=k)(g:(T<|c+1).length=3*k)(al:k<=20000000000){la b1 b2 b3:Y8}{ln lc n1 c1 n2 c2 n3 c3:Nat}
 (f0:B8 w G c k<|.slice la ln lc)(f1:B8 w G (c+1) k<|.slice b1 n1 c1)(f2:B8 w G (c+1) k<|.slice b2 n2 c2)(f3:B8 w G (c+1) k<|.slice b3 n3 c3):
 ∃U V W q K L M x r0 r1 r2 y N O P B y5 y7,(Ze ((Builtin.append_ #[t,t] t #[b c,qL w.heap.size 1 1]).run prog (w.alloc<|.cells #[.slice la ln lc] e)=.ok (.slice U V W) q)/\Ze ((Builtin.append_ #[t,t] t #[b<|c+1,qL q.heap.size 1 1]).run prog ((q.setCell ⟨n,o,none⟩<|.slice U V W).alloc<|.cells #[.slice b1 n1 c1] e)=.ok (.slice K L M) x)/\Ze ((Builtin.append_ #[t,t] t #[.slice K L M,qL x.heap.size 1 1]).run prog ((x.setCell ⟨n,a,none⟩<|.slice K L M).alloc<|.cells #[.slice b2 n2 c2] e)=.ok (.slice r0 r1 r2) y)/\Ze ((Builtin.append_ #[t,t] t #[.slice r0 r1 r2,qL y.heap.size 1 1]).run prog ((y.setCell ⟨n,a,none⟩<|.slice r0 r1 r2).alloc<|.cells #[.slice b3 n3 c3] e)=.ok (.slice N O P) B)) /\
 (w.cell? ⟨n,o,none⟩=some (b c)/\q.cell? ⟨n,o,none⟩=some (b c)/\q.cell? ⟨n,a,none⟩=some (b<|c+1)/\x.cell? ⟨n,a,none⟩=some (b<|c+1)/\y.cell? ⟨n,a,none⟩=some y5/\B.cell? ⟨n,a,none⟩=some y7)/\(n<w.heap.size/\n<q.heap.size/\n<x.heap.size/\n<y.heap.size/\n<B.heap.size)/\(q.frozen? ⟨n,o,none⟩=false/\x.frozen? ⟨n,a,none⟩=false/\y.frozen? ⟨n,a,none⟩=false/\B.frozen? ⟨n,a,none⟩=false) /\
 ∃Q p,j_ (B.setCell ⟨n,a,none⟩<|.slice N O P) G n i u z A Q p/\(p c).length=k+1/\(p<|c+1).length=3*(k+1)/\(∀d,d≠c->d≠c+1->p d=T d)/\pE w (LS n G b) (B.setCell ⟨n,a,none⟩<|.slice N O P) (LS n G Q):=by
 have⟨ae,D,hd⟩:c<4/\c+1<4/\c≠c+1:=by omega
 have e0:∀j,idx c j=j:=λj=>by rw[idx,VG<|by omega]
 have X:∀j,idx (c+1) j=j / 3:=λj=>by rw[idx,VF<|by omega]
 have I:∀b:Nat->Zb,#[qI (i:Nat),.bool false,u,z,A,b 0,b 1,b 2,b 3][o]?=some (b c)/\#[qI (i:Nat),.bool false,u,z,A,b 0,b 1,b 2,b 3][a]?=some (b<|c+1):=λb=>by obtain rfl|rfl:=C<;>subst ho af<;>exact⟨rfl,rfl⟩
 obtain⟨U,V,W,q,ah,am,r4,l,aa,g4,l4,r,s4,Y,-⟩:=h.app c ae o t e ho S R (by omega) (by rw[hk,e0];exact f0) t;obtain⟨K,L,M,x,ai,an,r5,E,ab,g5,J,k5,s5,f5,-⟩:=aa.app (c+1) D a t e (by omega) (by obtain rfl|rfl:=C<;>exact S) (by obtain rfl|rfl:=C<;>exact R) (by rw[r _ hd.symm];omega) (by rw[r _ hd.symm,g,X,show 3*k / 3=k by omega];exact Y _ _ _ f1) t;obtain⟨a0,a1,a2,y,aj,ao,r6,F,ac,g6,l6,k6,s6,f6,-⟩:=ab.app (c+1) D a t e (by omega) (by obtain rfl|rfl:=C<;>exact S) (by obtain rfl|rfl:=C<;>exact R) (by rw[J,r _ hd.symm,VH];simp;omega) (by rw[J,r _ hd.symm,VH,g,X,V_,show(3*k+1) / 3=k by omega];exact f5 _ _ _<|Y _ _ _ f2) t;obtain⟨N,O,P,B,ak,ag,r7,H,ad,g7,l7,k7,s7,f7,-⟩:=ac.app (c+1) D a t e (by omega) (by obtain rfl|rfl:=C<;>exact S) (by obtain rfl|rfl:=C<;>exact R) (by rw[l6,J,r _ hd.symm,VH,VH];simp;omega) (by rw[l6,J,r _ hd.symm,VH,VH,g,X,V_,V_,show(3*k+1+1) / 3=k by omega];exact f6 _ _ _<|f5 _ _ _<|Y _ _ _ f3) t;rw[g4.2 _ hd.symm,size_set]at r5;rw[g5.1,size_set]at r6;rw[g6.1,size_set]at r7;refine⟨U,V,W,q,K,L,M,x,a0,a1,a2,y,N,O,P,B,_,_,⟨r4,r5,r6,r7⟩,⟨(bC h.box o).trans (I b).1,(bC l o).trans (I b).1,(bC l a).trans (I b).2,?_,(bC F a).trans (I ai).2,(bC H a).trans (I aj).2⟩,⟨lB h.box,lB l,lB E,lB F,lB H⟩,⟨bF l o,bF E a,bF F a,bF H a⟩,ak,ag,ad,?_,?_,λd h0 Z=>by rw[k7 d Z,k6 d Z,k5 d Z,r d h0],((s4.trans s5).trans s6).trans s7⟩
 .rw[<-g4.2 _ hd.symm];exact(bC E a).trans (I ah).2
 .rw[k7 _ hd,k6 _ hd,k5 _ hd,l4,VH,hk];rfl
 .rw[l7,l6,J,r _ hd.symm];simp only[VH,V_,g];omega
def OS{vs:Nat->Zb}{M:Nat->Y0}(h:j_ w G n j z A B vs M)(d:w.ownsRow 0 34 3 C I.length<|c_ I)(p:∀k,C.ownBlock=some k->¬LS n G vs k)(a:I.length<=100000)(h0:(M 0).length<=20000000000)(i:(M 1).length=3*(M 0).length):
 Zc prog 195 #[qP n,C] w (DP w G n j z A B vs M (λk=>C.ownBlock=some k) 0 1):=by
 have al:=lB h.box;obtain⟨va,vc,g,-⟩:=cz<|h.own 0 (by decide);have b5:=bC h.box 5;simp at b5;rw[g]at b5;obtain⟨k,(K:Ze _)⟩:∃k,(M 0).length=k:=⟨_,rfl⟩;rw[K]at b5 h0 i;have P:=Z i;have hA:=aM w<|Kl k;obtain⟨l,o,rfl⟩:=bN d;have ad:Ze<|Tq (w.alloc<|Kl k) (w.alloc<|Kl k) (.slice l I.length o) k 0 I:=⟨KP.refl _ _,rfl,by simpa using d.alloc _⟩;have c:Zb.ownBlock (.slice l I.length o)≠some w.heap.size:=λe=>by have:=(d.lt _ e).2;omega
 have Q:Ze<|KP (λb=>b<w.heap.size) w<|w.alloc<|Kl k:=⟨rfl,rfl,rfl,by simp,λb a=>V2 _ _ _ a⟩;have ac:(w.alloc<|Kl k).heap.size=w.heap.size+1:=by simp
 have HX:=Z h;have HN:=Z p;have HR:=Z d;have y:=Z c;clear h p d i g c;go_in;go_wp2;generalize w.alloc (Kl k)=w0 at*
 go_loopw [5] (λs wr=>∃i:Nat,i<=I.length/\s=qI (i:Nat)/\Ze (Tq w0 wr (.slice l I.length o) k i I)) (λs _=>I.length-(Zk s).toNat)
 exact⟨0,Wi _,rfl,ad⟩
 case round=>
  obtain⟨i,hi,rfl,J⟩:=hrel;have d:=(J.d.block w.heap.size y).trans hA;have a0:=bC d 0;have a1:=bC d 1;have a2:=bC d 2;simp at a0 a1 a2;by_cases ae:i<I.length
  .obtain⟨g,cap,x,e,u,D,E,F,t⟩:=LV J.own (i:=i) (by simp;omega);injection e with p q e3;subst p;have c:=Z<|J.next ae;unfold xB mV at c;have r:(i:Int)<(I.length:Int):=by omega
   clear d q e3;go_wp2;go_roundw;exact⟨i+1,by omega,by go_num,c⟩;simp[Zk];omega
  obtain rfl:i=I.length:=by omega
  have N:=J.own;rw[Wa,WQ,X0]at N;have ai:wr.heap.size=w.heap.size+1:=J.a.trans ac;have R:Ze<|KP (λb=>b<w.heap.size/\Zb.ownBlock (.slice l I.length o)≠some b) w wr:=Q.go J.d λb a=>⟨a.1,a.2⟩;obtain⟨b1,n1,c1,w1,Y,r,V,x⟩:=Bj N (by omega) 1 (by decide) (by decide) 32;obtain⟨b2,n2,c2,w2,aa,t,W,D⟩:=Bj (x _ _ (by omega) N) (by omega) 2 (by decide) (by decide) 32;obtain⟨b3,n3,c3,O,ab,F,X,E⟩:=Bj (D _ _ (by omega)<|x _ _ (by omega) N) (by omega) 3 (by decide) (by decide) 32;have af:=r.size;have ag:=t.size;have ah:=F.size;have g:=(r.block (lB d) y).trans d;have p:=(t.block (by omega) y).trans g;have d0:=bC g 0;have d1:=bC g 1;have d2:=bC g 2;have e0:=bC p 0;have e1:=bC p 1;have e2:=bC p 2;simp at d0 d1 d2 e0 e1 e2;have S:Ze<|KP (λb=>b<w.heap.size/\¬Zb.ownBlock (.slice l I.length o)=some b) w O:=((R.go r.d λb a=>⟨a,by omega,a.2⟩).go t.d λb a=>⟨a,by omega,a.2⟩).go F.d λb a=>⟨a,by omega,a.2⟩;obtain⟨hL,hS⟩:=HX.grow (H:=λb=>Zb.ownBlock (.slice l I.length o)=some b) (λb a=>⟨(HR.lt b a).2,HN b a⟩) S;have T:∀u q,q<=2000000->O.ownsRow 0 34 3 u q (Gn k q)->(∀b,u.ownBlock=some b->Zb.ownBlock (.slice l I.length o)=some b\/w.heap.size<=b)->∀c,c<2->B8 O (λb=>G b\/(Zb.ownBlock (.slice l I.length o)=some b\/(w.heap.size<=b/\b<O.heap.size))) c k u:=λu q hq hu a c hc=>⟨q,hq,λb h=>.inr<|(a b h).imp id λh'=>⟨h',(hu.lt b h).2⟩,by rw[VG hc];exact hu⟩;have F1:=Z<|T _ _ (by omega) (E _ _ (by omega)<|D _ _ (by omega) V) (λb h=>r.own.elim (λe=>.inl<|e▸h) λe=>.inr (by rw[e]at h;cases h;omega)) 1 (by decide);have F2:=Z<|T _ _ (by omega) (E _ _ (by omega) W) (λb h=>t.own.elim (λe=>.inl<|e▸h) λe=>.inr (by rw[e]at h;cases h;omega)) 1 (by decide);have F3:=Z<|T _ _ (by omega) X (λb h=>F.own.elim (λe=>.inl<|e▸h) λe=>.inr (by rw[e]at h;cases h;omega)) 1 (by decide);generalize (λb=>G b\/(Zb.ownBlock (.slice l I.length o)=some b\/(w.heap.size<=b/\b<O.heap.size)))=F' at*;obtain⟨p0,p1,p2,x0,q0,q1,q2,x1,r0,r1,r2,x2,t0,t1,t2,x3,j5,j7,⟨R4,R5,R6,R7⟩,⟨y0,y1,y2,y3,y5,y7⟩,⟨u0,u1,u3,u5,u7⟩,⟨v0,v1,v2,v3⟩,ak,aj,U,l0,l1,l2,s7⟩:=hL.four 0 5 6 29 32 (.inl rfl) rfl rfl rfl rfl K P (by omega) (Z<|T _ _ (by omega) (E _ _ (by omega)<|D _ _ (by omega)<|x _ _ (by omega) N) (λb h=>.inl h) 0<|by decide) F1 F2 F3;have L:Ze<|DP w G n j z A B vs M (λk=>Zb.ownBlock (.slice l I.length o)=some k) 0 1 (.returned<|.tuple #[])<|x3.setCell ⟨n,6,none⟩<|.slice t0 t1 t2:=⟨rfl,F',ak,aj,U,by rw[l0,K],by rw[l1,P];omega,l2,hS.trans s7⟩;have R1:Ze<|(Builtin.append_ #[32,32] 32 #[.slice l I.length o,qL wr.heap.size 1 1]).run prog (wr.alloc<|Kl k)=.ok (.slice b1 n1 c1) w1:=Y;have z1:=lB g;have z2:=lB p;have R2:Ze<|(Builtin.append_ #[32,32] 32 #[.slice l I.length o,qL w1.heap.size 2 2]).run prog (w1.alloc<|.cells #[qI<|-1-(k:Int),qI 0,.string ⟨#[]⟩,qI<|-1-(k:Int),qI 0,.string ⟨#[]⟩] 34)=.ok (.slice b2 n2 c2) w2:=aa;have R3:Ze<|(Builtin.append_ #[32,32] 32 #[.slice l I.length o,qL w2.heap.size 3 3]).run prog (w2.alloc<|.cells #[qI<|-1-(k:Int),qI 0,.string ⟨#[]⟩,qI<|-1-(k:Int),qI 0,.string ⟨#[]⟩,qI<|-1-(k:Int),qI 0,.string ⟨#[]⟩] 34)=.ok (.slice b3 n3 c3) O:=ab;clear Y aa ab hL U l0 l1 l2 s7 hS F1 F2 F3 T S R x D E V W X r t F d g p N J HX HN HR Q y hA ai ac af ag ah;go_wp2_with (at_builtin;first|refine Lib.wpList_append_run _ rfl (.tmp 26) (.tmp 28) 32 32 rfl _ _ rfl rfl _ _ R1 ?_|refine Lib.wpList_append_run _ rfl (.tmp 30) (.tmp 33) 32 32 rfl _ _ rfl rfl _ _ R2 ?_|refine Lib.wpList_append_run _ rfl (.tmp 35) (.tmp 39) 32 32 rfl _ _ rfl rfl _ _ R3 ?_|refine Lib.wpList_append_run _ rfl (.tmp 45) (.tmp 47) 29 29 rfl _ _ rfl rfl _ _ R4 ?_|refine Lib.wpList_append_run _ rfl (.tmp 55) (.tmp 57) 29 29 rfl _ _ rfl rfl _ _ R5 ?_|refine Lib.wpList_append_run _ rfl (.tmp 65) (.tmp 67) 29 29 rfl _ _ rfl rfl _ _ R6 ?_|refine Lib.wpList_append_run _ rfl (.tmp 75) (.tmp 77) 29 29 rfl _ _ rfl rfl _ _ R7 ?_);exact WL (v:=.tuple #[]) (by simp[Zh,results195,go_sem]) rfl L
def HB(l:Zb)(qs:YZ)(k:Nat):Prop:=l.ownBlock=some k\/∃q∈qs,q.2.ownBlock=some k
structure JY(w:Za)(l:Zb)(qs:YZ):Prop where
 own:w.ownsRow 0 32 1 l qs.length<|df qs
 rows:fP w 0 qs
 len:(∀q∈qs,q.1.length<=100000)/\qs.length<=1048576
def JY.lt(h:JY w u o)(a:HB u o k):k<w.heap.size:=by
 obtain a|⟨q,b,a⟩:=a
 .exact(h.own.lt k a).2
 exact((h.rows.1 q b).lt k a).2
def JY.aL{w':Za}(h:JY w u o)(a:∀k,HB u o k->w'.heap[k]?=w.heap[k]?):JY w' u o:=
 ⟨cN h.own λk e=>a k<|.inl e,⟨λq b=>cN (h.rows.1 q b) λk e=>a k<|.inr ⟨q,b,e⟩,h.rows.2⟩,h.len⟩
def S_(ls:Nat->Y0)(n m:Nat):Prop:=(ls 0).length=n/\(ls 1).length=3*n/\(ls 2).length=m/\(ls 3).length=3*m
def P7{q:au}{rest:YZ}(g:w.ownsRow 0 32 1 u o.length<|df o)(d:fP w 0<|q::rest)(n:∀k,HB u (q::rest) k->¬G k)(b:pE w (λk=>G k\/q.2.ownBlock=some k) W H):
 W.ownsRow 0 32 1 u o.length (df o)/\fP W 0 rest/\(∀k,HB u rest k->¬H k)/\pE w (λk=>G k\/HB u (q::rest) k) W (λk=>H k\/HB u rest k):=by
 obtain⟨i,j⟩:=WZ.1 d.2;have l:∀k,HB u rest k->k<w.heap.size/\¬(G k\/q.2.ownBlock=some k):=λk hk=>by
  obtain hk|⟨p,a,hk⟩:=hk
  .refine⟨(g.lt k hk).2,λh=>h.elim (n k<|.inl hk) λe=>?_⟩;obtain⟨C,m,r⟩:=eX g hk;obtain⟨t,x,c⟩:=eX (d.1 q<|by simp) e;exact gZ r c (by decide) rfl
  exact⟨((d.1 p<|by simp[a]).lt k hk).2,λh=>h.elim (n k<|.inr ⟨p,by simp[a],hk⟩) λe=>i p a k e hk⟩
 have hk:∀k,HB u rest k->W.heap[k]?=w.heap[k]?:=λk h=>b.aL.block k<|l k h;refine⟨cN g λk e=>hk k<|.inl e,⟨λp a=>cN (d.1 p<|by simp[a]) λk e=>hk k<|.inr ⟨p,a,e⟩,j⟩,λk h=>b.not (l k h).1 (l k h).2,⟨⟨b.aL.os,b.aL.tape,b.aL.output,b.aL.size,λk h=>b.aL.block k ⟨h.1,λc=>h.2<|c.imp id λe=>.inr ⟨q,by simp,e⟩⟩⟩,λk h=>?_⟩⟩;obtain h|h:=h
 .exact(b.new k h).imp (λc=>c.imp id λe=>.inr ⟨q,by simp,e⟩) id
 .exact .inl<|.inr<|h.imp id λ⟨p,a,e⟩=>⟨p,by simp[a],e⟩
structure U8(w:Za)(S0:Y7)(wb came:Nat)(kv wv psv:Zb)(n m:Nat)(l:Zb)(qs:YZ)(i:Nat)(wr:Za):Prop where
 ex:∃F vs ls,j_ wr F wb came kv wv psv vs ls/\S_ ls (n+i) m/\wr.ownsRow 0 32 1 l qs.length (df qs)/\fP wr 0 (qs.drop i)/\(∀k,HB l (qs.drop i) k->¬LS wb F vs k)/\pE w S0 wr (λk=>LS wb F vs k\/HB l (qs.drop i) k)
structure Tr(w wr:Za)(l:Zb)(mb i:Nat)(xs:Y0):Prop where
 d:KP (λb=>l.ownBlock≠some b) w wr
 a:wr.heap.size=w.heap.size
 own:wr.ownsRow 0 32 1 l xs.length<|zO mb i++xs.drop i
def Tr.next{wr:Za}{a:Nat}{b:Y0}(h:Tr w wr (qL k n j) a i b)(d:i<b.length):Tr w (wr.setCell ⟨k,i,none⟩<|qL a 1 1) (qL k n j) a (i+1) b:=by
 have e:(zO a i++b.drop i).set i (qL a 1 1)=zO a (i+1)++b.drop (i+1):=by unfold zO;rw[VJ d,Ws _ _<|by simp,YJ,X0,XL,XA,Wh];rfl
 have c:=Aa (i:=i) h.own rfl (by omega)<|qL a 1 1;rw[e]at c;exact⟨h.d.set (p:=⟨k,i,none⟩) (λg=>g rfl) _,by rw[size_set];exact h.a,c⟩
def P6(c a b:Nat):zO c (a+b)=zO c a++zO c b:=by simp only[zO,<-Xr]
def yo(h:w.ownsRow 0 32 1 z n<|zO k n)(r:n<=2000000)(m:Nat)(j:0<m)(p:m<=3)(i:Zf):
 ∃c e c5 b,(Builtin.append_ #[29,29] i #[z,qL w.heap.size m m]).run prog (w.alloc<|.cells (zO k m).toArray 32)=.ok (.slice c e c5) b/\App w b z (.slice c e c5)/\b.ownsRow 0 32 1 (.slice c e c5) (n+m) (zO k<|n+m)/\(∀u q,q<=n+m->w.ownsRow 0 32 1 u q (zO k q)->b.ownsRow 0 32 1 u q (zO k q)):=by
 obtain ⟨t,b,o,a,g⟩:=Pm underlying29 iN rfl (by decide) (by decide) h qO j (news:=zO k m) (by simp [zO]) (λu d=>by
  unfold zO at d;rw[List.mem_replicate]at d
  rw[d.2];rfl) (by omega) i
 rw[<-P6]at a;obtain⟨c,e,c5,rfl⟩:=aF a;exact⟨c,e,c5,b,o,g,a,λu q l d=>Dj (NR k) (by decide) d h a g l⟩
def DO(w:Za)(S0:Y7)(wb came:Nat)(kv wv psv:Zb)(n m:Nat)(e:Zg)(w':Za):Prop:=e=.returned (.tuple #[])/\∃F vs ls,j_ w' F wb came kv wv psv vs ls/\S_ ls n m/\pE w S0 w' (LS wb F vs)
def NQ{p a:Nat}{K:Nat->Zb}{U:Nat->Y0}(h:j_ w G p a z A B K U){m:Nat}(hc:S_ U n m)(hM:JY w C o)(hd:∀k,HB C o k->¬LS p G K k)(hn:n+o.length<=20000000000)(hm:m<=20000000000):
 Zc prog 140 #[.pointer<|some ⟨p,0,none⟩,C] w (DO w (λk=>LS p G K k\/HB C o k) p a z A B (n+o.length)<|m+1):=by
 have ak:Ze<|U8 w (λk=>LS p G K k\/HB C o k) p a z A B n m C o 0 w:=⟨G,K,U,h,hc,hM.own,by rw[WG];exact hM.rows,by rw[WG];exact hd,by rw[WG];exact pE.refl _ _⟩;have ax:=hM.len.2;obtain⟨t,r,rfl⟩:=bN hM.own;generalize (λk=>LS p G K k\/HB (.slice t o.length r) o k)=S0 at*;go_in;go_wp2
 go_loopw [4] (λs wr=>∃i:Nat,i<=o.length/\s=.int .i64 (i:Nat)/\Ze (U8 w S0 p a z A B n m (.slice t o.length r) o i wr)) (λs _=>o.length-(Zk s).toNat)
 exact⟨0,qO,rfl,ak⟩
 case round=>
  obtain⟨i,hi,rfl,D⟩:=hrel;obtain⟨G,K,U,L,c,y,u,d,x⟩:=D.ex;by_cases S:i<o.length
  .have E:o[i]?=some o[i]:=VE S;have l:o.drop i=o[i]::o.drop (i+1):=VJ S;have F:=(Z hM.len.1).o _<|VQ S;generalize o[i]=q at*;obtain⟨g,_,e,_,hg,x0⟩:=tG y (j:=i) (u:=q.2) (by rw[df,VO,E];rfl);injection e with e1 e2 e3;subst e1;rw[l]at u d x;have N:=u.1 q (by simp);have Q:=Z<|OS L N (λk e=>d k<|.inr ⟨q,by simp,e⟩) F (by rw[c.1];omega) (by rw[c.2.1,c.1]);obtain⟨qa,qn,qc,b⟩:=aF N;rw[b]at x0;have M:Ze<|Zc prog 195 #[.pointer<|some ⟨p,0,none⟩,.slice qa qn qc] wr<|DP wr G p a z A B K U (λk=>q.2.ownBlock=some k) 0 1:=by rw[<-b];exact Q
   have ay:((i:Nat):Int)<((o.length:Nat):Int):=by omega
   have J:Ze (∀I,DP wr G p a z A B K U (λk=>q.2.ownBlock=some k) 0 1 (.returned<|.tuple #[]) I->U8 w S0 p a z A B n m (.slice (some ⟨g,0,none⟩) o.length r) o (i+1) I):=λI ⟨_,T,P,O,h1,h2,h3,R,h5⟩=>by obtain⟨V,W,X,Y⟩:=P7 y u d h5;exact⟨T,P,O,h1,⟨by rw[h2,c.1];omega,by rw[h3,c.2.1];omega,by rw[R 2 (by decide)<|by decide];exact c.2.2.1,by rw[R 3 (by decide)<|by decide];exact c.2.2.2⟩,V,W,X,x.trans Y⟩
   clear L c y u d x D l E N Q e2 e3 b;go_wp2_with fail;refine M.mono ?_;intro e I b;have l:=b.1;subst l;go_wp2;go_roundw;exact⟨i+1,by omega,by go_num,Z<|J I b⟩;simp[Zk];omega
  obtain rfl:i=o.length:=by omega
  rw[Wa]at u d x;obtain⟨va,vc,g,-⟩:=cz<|L.own 2 (by decide);rw[c.2.2.1]at g;have av:=lB L.box;have b7:=bC L.box 7;simp at b7;rw[g]at b7;have W:Ze<|KP (λb=>b<wr.heap.size) wr<|wr.alloc<|Kl m:=⟨rfl,rfl,rfl,by simp,λb l=>V2 _ _ _ l⟩;have aj:(wr.alloc<|Kl m).heap.size=wr.heap.size+1:=by simp
  have hA:=aM wr<|Kl m;have al:Ze<|Tr (wr.alloc<|Kl m) (wr.alloc<|Kl m) (.slice t o.length r) wr.heap.size 0<|df o:=⟨KP.refl _ _,rfl,by have:=y.alloc<|Kl m;simpa[zO,df]using this⟩;have HL:=Z L;have V:=Z c;have HO:=Z y;have HD:=Z d;have HS:=Z x;have q:(df o).length=o.length:=by simp[df]
  have E:=Z q;clear L c y u d x D g q;generalize wr=d at*;go_wp2;generalize d.alloc (Kl m)=w0 at*
  go_loopw [6] (λs wr=>∃i:Nat,i<=o.length/\s=.int .i64 (i:Nat)/\Ze (Tr w0 wr (.slice t o.length r) d.heap.size i<|df o)) (λs _=>o.length-(Zk s).toNat)
  exact⟨0,qO,rfl,al⟩;obtain⟨i,aw,rfl,D⟩:=hrel;by_cases ac:i<o.length
  .have q:=D.own;obtain⟨_,M⟩|⟨g,cap,I,e,_,F,_⟩:=q.2
   .rw[E]at M;omega
   injection e with e1 e2 e3;subst e1;obtain⟨u,R⟩:∃u,wr.cell? ⟨g,i,none⟩=some u:=by obtain⟨P,_,J,_,_,c⟩:=tG q (j:=i) (u:=(zO d.heap.size i++(df o).drop i)[i]'(by rw[VH,Wp,E];simp[zO];omega))<|VE _;injection J with e4 _ _;cases e4;exact⟨_,c⟩
   have N:=lB F;have Q:=bF F i;have O:((i:Nat):Int)<((o.length:Nat):Int):=by omega
   go_wp2;go_roundw;exact⟨i+1,by omega,by go_num,Z<|D.next<|E▸ac⟩;simp[Zk];omega
  obtain rfl:i=o.length:=by omega
  have y:=D.own;rw[Wo<|W_ E,WQ,E]at y;have g:Zb.ownBlock (.slice t o.length r)≠some d.heap.size:=λe=>by have:=(HO.lt _ e).2;omega
  have Q:=(D.d.block d.heap.size g).trans hA;have am:=lB Q;have aq:wr.heap.size=d.heap.size+1:=D.a.trans aj;have X:Ze<|KP (λb=>b<d.heap.size/\Zb.ownBlock (.slice t o.length r)≠some b) d wr:=W.go D.d λb l=>⟨l.1,l.2⟩;obtain⟨b1,n1,c1,w1,ag,F,ad,M⟩:=yo y (by omega) 1 (by decide) (by decide) 29;obtain⟨b2,n2,c2,w2,ah,I,ae,N⟩:=yo (M _ _ (by omega) y) (by omega) 2 (by decide) (by decide) 29;obtain⟨b3,n3,c3,T,ai,J,af,O⟩:=yo (N _ _ (by omega)<|M _ _ (by omega) y) (by omega) 3 (by decide) (by decide) 29;have an:=F.size;have ao:=I.size;have ap:=J.size;have R:=(J.block (by omega) g).trans<|(I.block (by omega) g).trans<|(F.block am g).trans Q;have Y:Ze<|KP (λb=>b<d.heap.size/\¬Zb.ownBlock (.slice t o.length r)=some b) d T:=((X.go F.d λb l=>⟨l,by omega,l.2⟩).go I.d λb l=>⟨l,by omega,l.2⟩).go J.d λb l=>⟨l,by omega,l.2⟩;obtain⟨L,x⟩:=HL.grow (H:=λb=>Zb.ownBlock (.slice t o.length r)=some b) (λb l=>⟨(HO.lt b l).2,HD b<|.inl l⟩) Y;have hF:∀u q,q<=2000000->T.ownsRow 0 32 1 u q (zO d.heap.size q)->(∀b,u.ownBlock=some b->Zb.ownBlock (.slice t o.length r)=some b\/d.heap.size<=b)->∀c,¬c<2->B8 T (λb=>G b\/(Zb.ownBlock (.slice t o.length r)=some b\/(d.heap.size<=b/\b<T.heap.size))) c m u:=λu q hq hu l c hc=>⟨q,hq,λb h=>.inr<|(l b h).imp id λh'=>⟨h',(hu.lt b h).2⟩,by rw[VF hc];exact⟨_,.inr<|.inr ⟨qZ,lB R⟩,R,hu⟩⟩;have F1:=Z<|hF _ _ (by omega) (O _ _ (by omega)<|N _ _ (by omega) ad) (λb h=>F.own.elim (λe=>.inl<|e▸h) λe=>.inr (by rw[e]at h;cases h;omega)) 3 (by decide);have F2:=Z<|hF _ _ (by omega) (O _ _ (by omega) ae) (λb h=>I.own.elim (λe=>.inl<|e▸h) λe=>.inr (by rw[e]at h;cases h;omega)) 3 (by decide);have F3:=Z<|hF _ _ (by omega) af (λb h=>J.own.elim (λe=>.inl<|e▸h) λe=>.inr (by rw[e]at h;cases h;omega)) 3 (by decide);generalize (λb=>G b\/(Zb.ownBlock (.slice t o.length r)=some b\/(d.heap.size<=b/\b<T.heap.size)))=F' at*;obtain⟨p0,p1,p2,x0,q0,q1,q2,x1,r0,r1,r2,x2,t0,t1,t2,x3,j5,j7,⟨R4,R5,R6,R7⟩,⟨y0,y1,y2,y3,y5,y7⟩,⟨u0,u1,u3,u5,u7⟩,⟨v0,v1,v2,v3⟩,au,ar,aa,l0,l1,l2,s7⟩:=L.four 2 7 8 56 29 (.inr rfl) rfl rfl rfl rfl V.2.2.1 V.2.2.2 (by omega) (Z<|hF _ _ (by omega) (O _ _ (by omega)<|N _ _ (by omega)<|M _ _ (by omega) y) (λb h=>.inl h) 2<|by decide) F1 F2 F3;have ab:pE d (λk=>LS p G K k\/HB (.slice t o.length r) [] k) T<|LS p F' K:=⟨⟨x.aL.os,x.aL.tape,x.aL.output,x.aL.size,λk hk=>x.aL.block k ⟨hk.1,λh=>hk.2<|h.imp id .inl⟩⟩,λk hk=>(x.new k hk).imp (λh=>h.imp id .inl) id⟩;have P:Ze<|DO w S0 p a z A B (n+o.length) (m+1) (.returned<|.tuple #[])<|x3.setCell ⟨p,8,none⟩<|.slice t0 t1 t2:=⟨rfl,F',au,ar,aa,⟨by rw[l2 0 (by decide)<|by decide];exact V.1,by rw[l2 1 (by decide)<|by decide];exact V.2.1,l0,l1⟩,(HS.trans ab).trans s7⟩;have R1:Ze<|(Builtin.append_ #[29,29] 29 #[.slice t o.length r,.slice (some ⟨wr.heap.size,0,none⟩) 1 1]).run prog (wr.alloc<|.cells #[.slice (some ⟨d.heap.size,0,none⟩) 1 1] 32)=.ok (.slice b1 n1 c1) w1:=ag;have R2:Ze<|(Builtin.append_ #[29,29] 29 #[.slice t o.length r,.slice (some ⟨w1.heap.size,0,none⟩) 2 2]).run prog (w1.alloc<|.cells #[.slice (some ⟨d.heap.size,0,none⟩) 1 1,.slice (some ⟨d.heap.size,0,none⟩) 1 1] 32)=.ok (.slice b2 n2 c2) w2:=ah;have R3:Ze<|(Builtin.append_ #[29,29] 29 #[.slice t o.length r,.slice (some ⟨w2.heap.size,0,none⟩) 3 3]).run prog (w2.alloc<|.cells #[.slice (some ⟨d.heap.size,0,none⟩) 1 1,.slice (some ⟨d.heap.size,0,none⟩) 1 1,.slice (some ⟨d.heap.size,0,none⟩) 1 1] 32)=.ok (.slice b3 n3 c3) T:=ai;clear ag ah ai L aa l0 l1 l2 s7 x ab F1 F2 F3 hF Y X M N O ad ae af F I J Q R y D HL V HO HD HS W g hA aq aj an ao ap;go_wp2_with (at_builtin;first|refine Lib.wpList_append_run _ rfl (.tmp 40) (.tmp 42) 29 29 rfl _ _ rfl rfl _ _ R1 ?_|refine Lib.wpList_append_run _ rfl (.tmp 44) (.tmp 47) 29 29 rfl _ _ rfl rfl _ _ R2 ?_|refine Lib.wpList_append_run _ rfl (.tmp 49) (.tmp 53) 29 29 rfl _ _ rfl rfl _ _ R3 ?_|refine Lib.wpList_append_run _ rfl (.tmp 59) (.tmp 61) 56 56 rfl _ _ rfl rfl _ _ R4 ?_|refine Lib.wpList_append_run _ rfl (.tmp 69) (.tmp 71) 56 56 rfl _ _ rfl rfl _ _ R5 ?_|refine Lib.wpList_append_run _ rfl (.tmp 79) (.tmp 81) 56 56 rfl _ _ rfl rfl _ _ R6 ?_|refine Lib.wpList_append_run _ rfl (.tmp 89) (.tmp 91) 56 56 rfl _ _ rfl rfl _ _ R7 ?_);exact WL (v:=.tuple #[]) (by simp[Zh,results140,go_sem]) rfl P
def JY.c(h:JY w u o):uU w (o.map (·.1)) u:=by refine uU.of (qy h.own λq g=>c7 (f:=vC) (λ_=>rfl) (h.rows.1 q g) qZ) λa n c e=>?_;obtain⟨i,j,b,d⟩:=cz h.own;rw[e]at b;cases b;exact d
def Oy{u1 u2:Zb}(c:br w w.heap.size 3 vC I u1)(d:br w w.heap.size 3 vC I u2)(H:I.length<=100000):
 Zc prog 92 #[u1,u2] w (qF (.bool true) w):=by
 have h:Ze (∀k,k<I.length->_):=λk hk=>c.val hk;have i:Ze (∀k,k<I.length->_):=λk hk=>d.val hk;obtain⟨D,F,y⟩:=c.slice;obtain⟨E,G,z⟩:=d.slice;subst y;subst z;have A:=P8;clear c d;go_in;go_wp2
 go_loopw [5] (λB C=>∃(k:Nat),k<=I.length/\B=qI (k:Nat)/\Ze (qB w C)) (λa _=>I.length-(Zk a).toNat)
 exact⟨0,qO,rfl,qW⟩
 case round=>
  obtain⟨k,hk,rfl,b⟩:=hrel;by_cases g:k<I.length
  .obtain⟨c,_,e,j,r,t,u⟩:=h.o k g;cases e;obtain⟨d,_,e,l,n,o,q⟩:=i.o k g;cases e;have r:=(b.cell (p:=⟨c,k*3,none⟩) j).trans r;have t:=(b.cell (p:=⟨c,k*3+1,none⟩) j).trans t;have u:=(b.cell (p:=⟨c,k*3+2,none⟩) j).trans u;have n:=(b.cell (p:=⟨d,k*3,none⟩) l).trans n;have o:=(b.cell (p:=⟨d,k*3+1,none⟩) l).trans o;have q:=(b.cell (p:=⟨d,k*3+2,none⟩) l).trans q;generalize I[k]=x at*;go_wp2;go_region;all_goals go_wp2_with fail
   all_goals
    go_roundw;exact⟨k+1,by omega,by go_num,b.drew⟩
    case measure=>simp[Zk];omega
  go_wp2;go_ret;exact⟨rfl,b⟩
def GO{wr:Za}(G:uU w N u)(H:uU w N z)(j:qB w wr)(J:∀r∈N,r.length<=100000)(n:i<N.length):∃(g k c1 h l c2:Nat)(A B:Y8)(q c t d:Nat),u=.slice (some ⟨g,k,none⟩) N.length c1/\z=.slice (some ⟨h,l,none⟩) N.length c2/\(∀p:dx wr,p.val.cell? ⟨g,k+i,none⟩=some (.slice A q c))/\(∀p:dx wr,p.val.cell? ⟨h,l+i,none⟩=some (.slice B t d)) /\
 Ze (∀p:dx wr,Zc prog 92 #[.slice A q c,.slice B t d] p.val λe o=>e=.returned (.bool true)/\∃P:dx wr,o=P.val):=by
 have b:N[i]?=some N[i]:=VE n;have a:N≠[]:=by rintro rfl;simp at n
 obtain⟨U,c1,E,_,K⟩:=G.below j;obtain⟨V,c2,F,_,L⟩:=H.below j;obtain⟨g,k,rfl,S,M⟩:=K a;obtain⟨h,l,rfl,T,O⟩:=L a;obtain⟨u1,c,x⟩:=M i _ b;obtain⟨u2,d,y⟩:=O i _ b;obtain⟨C,Q,rfl⟩:=x.slice;obtain⟨D,R,rfl⟩:=y.slice;exact⟨g,k,c1,h,l,c2,C,D,_,Q,_,R,E,F,λp=>dx.cell S c p,λp=>dx.cell T d p,λp=>(Oy (x.below p.d) (y.below p.d)<|J _<|VQ n).mono λe o ⟨I,j⟩=>⟨I,⟨o,p.d.trans<|j.mono p.d.size⟩,rfl⟩⟩
def Dw(h:uU w N u)(j:uU w N z)(H:N.length<=1048576)(t:∀r∈N,r.length<=100000):
 Zc prog 58 #[u,z] w (qF (.bool true) w):=by
 have n:Ze (∀wr,qB w wr->∀i,i<N.length->_):=λwr q i hi=>GO h j q t hi;obtain⟨B,c1,rfl,_,_⟩:=h;obtain⟨C,c2,rfl,_,_⟩:=j;have k:∀(a:Y_) (w:Za),(Zi 92 a).run prog w=.ok (.enter 92 a) w:=λa w=>by go_simp
 go_in;go_wp2
 go_loopw [5] (λA wr=>∃(i:Nat),i<=N.length/\A=qI (i:Nat)/\Ze (qB w wr)) (λa _=>N.length-(Zk a).toNat)
 exact⟨0,qO,rfl,qW⟩
 case round=>
  obtain⟨i,hi,rfl,c⟩:=hrel;by_cases e:i<N.length
  .obtain⟨F,K,_,G,L,_,P,Q,I,D,J,E,o,p,M,O,l⟩:=n.o wr c i e;cases o;cases p;have x:(i:Int)<(N.length:Int):=by omega
   go_wp2;have y:Inhabited<|dx wr:=dx.first wr;refine eV (by kernel_rfl) (by kernel_rfl) ?_;repeat (go_big_quiet_step (exact l _))
   refine wpQuiet_nil ?_;intro _ g;obtain⟨pb,b⟩:=g;subst b;have d:=Z<|c.trans<|pb.d.mono c.size;generalize pb.val=W at*;go_wp2;go_roundw;exact⟨i+1,by omega,by go_num,d⟩;simp[Zk];omega
  go_wp2;go_ret;exact⟨rfl,c⟩
def Ux(c:Int)(C:uU w N u)(D:uU w N z)(hl:N.length<=1048576)(L:∀r∈N,r.length<=100000):
 Zc prog 88 #[.agg #[u,qI c],.agg #[z,qI c]] w (qF (.bool true) w):=by
 have H:Ze (∀wr,qB w wr->∀i,i<N.length->_):=λwr K i hi=>GO C D K L hi;obtain⟨g,c1,rfl,_,_⟩:=C;obtain⟨n,c2,rfl,_,_⟩:=D;have E:∀(a:Y_) (w:Za),(Zi 92 a).run prog w=.ok (.enter 92 a) w:=λa w=>by go_simp
 have q:=bA (aM w<|.cells #[.slice g N.length c1,qI c] 36)<|.cells #[.slice n N.length c2,qI c] 36;have hB:=aM (w.alloc<|.cells #[.slice g N.length c1,qI c] 36)<|.cells #[.slice n N.length c2,qI c] 36;have y:qB w<|(w.alloc<|.cells #[.slice g N.length c1,qI c] 36).alloc<|.cells #[.slice n N.length c2,qI c] 36:=(qA).alloc (by simp) _;have x:(w.alloc<|.cells #[.slice g N.length c1,qI c] 36).heap.size=w.heap.size+1:=by simp
 rw[x]at hB;generalize O:(w.alloc<|.cells #[.slice g N.length c1,qI c] 36).alloc (.cells #[.slice n N.length c2,qI c] 36)=S at*;have F:=Z q;have HB:=Z hB;have b:=Z y;have l:=bC q 0;have I:=bC q;have o:=bC hB 0;have T:=bC hB;simp at l I o;go_in;go_wp2
 go_loopw [5] (λR wr=>∃(i:Nat),i<=N.length/\R=qI (i:Nat)/\Ze (qB S wr)) (λa _=>N.length-(Zk a).toNat)
 exact⟨0,qO,rfl,qW⟩
 case round=>
  obtain⟨i,hi,rfl,e⟩:=hrel;have h:=bB e (lB q) F;have j:=bB e (lB hB) HB;have l:=bC h 0;have o:=bC j 0;simp at l o;have d:=Z<|b.trans<|e.mono b.size;by_cases A:i<N.length
  .obtain⟨X,o1,_,Y,o2,_,x1,x2,n1,U,n2,V,x,J,p1,p2,G⟩:=H.o wr d i A;cases x;cases J;have M:(i:Int)<(N.length:Int):=by omega
   have pa:=λp=>dx.cell (lB h) l p;have Q:=λp=>dx.cell (lB j) o p;go_wp2;have P:Inhabited<|dx wr:=dx.first wr;refine eV (by kernel_rfl) (by kernel_rfl) ?_;repeat (go_big_quiet_step (exact G _))
   refine wpQuiet_nil ?_;intro _ B;obtain⟨pb,k⟩:=B;subst k;have t:=Z<|e.trans<|pb.d.mono e.size;generalize pb.val=W at*;go_wp2;go_roundw;exact⟨i+1,by omega,by go_num,t⟩;simp[Zk];omega
  go_wp2;go_ret;exact⟨rfl,d⟩
def Sd:(prog.info? 275).map (λi=>(i.zero,i.size,i.bytes))=some (some<|.agg #[.int .i64 0,.slice none 0 0],2,32):=by kernel_rfl
def AU{d:Y_}:(Zi 161 d).run prog w=.ok (.enter 161 d) w:=by
 have g:(f161.name == "runtime.NumGoroutine")=false:=by kernel_rfl
 have c: f161.body.isNone=false:=by kernel_rfl
 have a:¬f161.name = "runtime.NumGoroutine":=by simpa using g
 have b:¬f161.body=none:=by intro e;rw[e]at c;cases c
 simp[Zi,go_sem,func161,a,b]
def br.y{v:Zb}(h:br w n 2 Vm r v){p:ay×Zb}(b:r[i]?=some p):∃g cap,v=.slice (some ⟨g,0,none⟩) r.length cap/\g<n /\
 w.cell? ⟨g,i*2,none⟩=some (.string ⟨p.1.name.toArray⟩)/\w.cell? ⟨g,i*2+1,none⟩=some p.2:=by
 obtain⟨a,cap,rfl,d⟩:=h;obtain⟨g,rfl,e,c⟩:=d (by rintro rfl;simp at b);exact⟨g,cap,rfl,e,c i p b 0 _ rfl,c i p b 1 _ rfl⟩
def JW(ab:YY)(t:aA)(want:Int)(K:Nat)(wx:Za)(p:Y8)(n c er:Nat):Prop:=aT ab t want=some er\/(er=0/\aT ab t want=none/\lM wx (El K wx.heap.size) ab t (.slice p n c))
def Rn(W:Za)(ab:YY)(t:aA)(want:Int)(v:Zb)(w':Za):Prop:=∃(p:Y8)(n c er:Nat),v=.tuple #[.agg #[.slice p n c],.int .i64 (er:Nat)]/\Zd W.heap.size W w'/\JW ab t want W.heap.size w' p n c er
def Ru{f:Nat}{b:Y_}(h:Zc prog f b W<|mj W R F a):Zc prog f b W λe j=>∃v,e=.returned v/\Rn W F R a v j:=by
 refine h.mono ?_;rintro e j⟨i,⟨k,d,rfl⟩|⟨cv,d,rfl,g⟩⟩
 .exact⟨_,rfl,_,_,_,k,rfl,i,.inl d⟩
 obtain⟨p,n,c,rfl⟩:=g.slice;exact⟨_,rfl,p,n,c,0,rfl,i,.inr ⟨rfl,d,g⟩⟩
structure Rm(W wx:Za)(xb:Nat)(ab:YY)(t:aA)(want:Int)(p:Y8)(n c er:Nat):Prop where
 d:Zd W.heap.size W wx
 g:wx.heap[xb]?=some (.cells #[.slice p n c] 204)
 a:JW ab t want W.heap.size wx p n c er
def M9{p:Y8}(b:Zd W.heap.size W.drew w)(g:JW F R a W.drew.heap.size w p n i j):Rm W (w.alloc<|.cells #[.slice p n i] 204) w.heap.size F R a p n i j:=
 ⟨((VM W.heap.size W).drew.trans b).alloc (by have:=b.size;exact this) _,aM _ _,g.imp id λ⟨c,d,e⟩=>⟨c,d,(iE.aL e λk hk=>V2 _ _ _ hk.2).mono λk hk=>⟨hk.1,by have:=hk.2;simp;omega⟩⟩⟩
def K_{p:Y8}(e:Zd (W.heap.size+1) (W.alloc<|.cells #[.slice none 0 0] 204).drew w)(h:w.heap[W.heap.size]?=some (.cells #[.slice none 0 0] 204))(g:JW F R a (W.heap.size+1) w p n i j):Rm W (w.setCell ⟨W.heap.size,0,none⟩<|.slice p n i) W.heap.size F R a p n i j:=
 ⟨(((VM W.heap.size W).alloc (VR _) _).drew.trans<|e.mono<|by omega).setCell (VR _) _,by simpa using bS h 0 (.slice p n i),g.imp id λ⟨b,c,d⟩=>⟨b,c,(iE.aL d λk hk=>VN _ _ _ _ (show k≠W.heap.size by have:=hk.1;omega)).mono λk hk=>⟨by have:=hk.1;omega,by rw[size_set];exact hk.2⟩⟩⟩
structure Rr(w1 wr:Za)(t:bV)(ps:List<|ay×Zb)(i:Nat)(sv:Zb)(sgs:List Sg):Prop where
 set:rI w1 wr (ax t.name t) sv sgs
 go:b_ t [] (ps.map (·.1))=b_ t (places sgs) ((ps.drop i).map (·.1))
 trees:sgs.map (λs=>s.2.1)=((ps.take i).map (·.1)).map (·.aW)
 len:sgs.length=i
def rI.c{wr:Za}{a:List Sg}(h:rI W wr F u a)(b:Zd w.heap.size w W):rI w wr F u a:=
 ⟨b.trans<|h.d.mono b.size,bU h.own b.size,h.e⟩
def rI.rows{wr:Za}{a:List Sg}(h:rI w wr F u a):br wr wr.heap.size 2 KC a u:=c7 (f:=KC) (λ_=>rfl) h.own<|VR _
def rI.g{wr:Za}{b:List Sg}(h:rI w wr F u b):∀s∈b,∃a m c,s.2.2=.slice a m c:=λs hs=>(h.e s hs).slice
def K7{t:bV}(h:dY t X=some k):k<t.a.length:=by unfold dY at h;exact(Xj.1 h).1
def x_(t:bV)(hn:n<w.heap.size)(bk:w.cell? ⟨n,0,none⟩=some (.string ⟨t.name.toArray⟩))(K:w.cell? ⟨n,1,none⟩=some A)(X:br w w.heap.size 2 OT t.a A)(hl:t.a.length<=1000)(hr:i4 w)(hg: 9<w.heap.size)(hs:CW w w.heap.size h z)(a9:∀p∈h,cY p.1.aW)(bo:h.length<=1000):
 Zc prog 108 #[.pointer<|some ⟨n,0,none⟩,z] w (vW w t<|h.map (·.1)):=by
 obtain⟨ua,uc,rfl⟩:=hs.1.slice;obtain⟨ca,cc,rfl⟩:=X.slice;obtain⟨i0,hi,a5,a6,a7⟩:=V5 Sd;have aS:=Z<|Jr t.name hn K X hl;have ao:=Z X;have S:=Z hs;have HR:=Z hr;have ap:=Z hg;have aO:=Z a9;have R:Ze (∀(er:Nat) w',b_ t [] (h.map (·.1))=.error er->(er=2\/er=3)->Zd w.heap.size w w'->vW w t (h.map (·.1)) (.returned<|.tuple #[.slice none 0 0,.int .i64 (er:Nat)]) w'):=λer w' h1 h2 h3=>⟨h3,.inl ⟨er,h1,h2,rfl⟩⟩;have aw:Ze (∀b v w',b_ t [] (h.map (·.1))=.ok (places b)->b.map (λs=>s.2.1)=(h.map (·.1)).map (·.aW)->rI w w' (ax t.name t) v b->vW w t (h.map (·.1)) (.returned<|.tuple #[v,.int .i64 0]) w'):=λb v w' h1 h2 h3=>⟨h3.d,.inr ⟨b,v,h1,h2,rfl,h3⟩⟩;generalize vW w t (h.map (·.1))=be at*;go_in;go_wp2_with fail;refine aS.mono ?_;rintro e l⟨az,TT,rfl,F⟩;obtain⟨va,vn,vc,rfl⟩:=aF F;have an:Ze<|br l l.heap.size 3 lS (ax t.name t)<|.slice va vn vc:=by unfold Ze;rw[yw];exact c7 (f:=lS) (λ_=>rfl) F<|VR _
 have o:=Z az;have q:=az.size;have aL:Ze<|Rr l l t h 0 (.slice none 0 0) []:=⟨⟨VM _ _,VP _ _ _ _,λs hs=>by simp at hs⟩,rfl,rfl,rfl⟩;go_wp2
 go_loopw [7,21] (λs7 bd wr=>∃(i:Nat) (b:List Sg),i<=h.length/\bd=.int .i64 (i:Nat)/\Ze (Rr l wr t h i s7 b)) (λ_ a _=>h.length-(Zk a).toNat)
 exact⟨0,[],Wi _,rfl,aL⟩
 case round=>
  obtain⟨i,b,bl,rfl,d⟩:=hrel;have aZ:=d.set.d;obtain⟨sa,sn,sc,rfl⟩:=aF d.set.own;have B:Zd w.heap.size w wr:=o.trans<|aZ.mono q;by_cases aa:i<h.length
  .have aE:h[i]?=some h[i]:=VE aa;have P:=VQ aa;have J:Ze<|(h.drop i).map (·.1)=h[i].1::(h.drop<|i+1).map (·.1):=by rw[Ze,VJ aa];rfl
   have aU:Ze<|((h.take<|i+1).map (·.1)).map (·.aW)=((h.take i).map (·.1)).map (·.aW)++[h[i].1.aW]:=by rw[Ze,V9,aE];simp only[XV,Wc,We,Yw]
   generalize h[i]=p at*;obtain⟨y,pv⟩:=p;obtain⟨pa,rfl⟩:=(S.2 _ P).ptr;obtain⟨g,cap,he,a4,e0,e1⟩:=(S.1.aL λk hk=>B.block k hk).y aE;cases he;simp only at e0 e1;have bh:g<wr.heap.size:=VT a4 B.size;have bn:n<wr.heap.size:=VT hn B.size;have d0:=(VK<|B.block n hn).trans K;generalize T:wr.alloc (.cells #[.string ⟨y.name.toArray⟩,.pointer pa] 259)=Wb at*;have aB:Zd wr.heap.size wr Wb:=by rw[<-T];exact(VM _ _).alloc (VR _) _
   have a0:Wb.heap[wr.heap.size]?=some (.cells #[.string ⟨y.name.toArray⟩,.pointer pa] 259):=by rw[<-T];exact aM _ _
   have j:Zd w.heap.size w Wb:=B.trans<|aB.mono B.size;have aP:=Z<|SF t y.name (VT hn j.size) ((VK<|j.block n hn).trans K) ((ao.aL λk hk=>j.block k hk).more j.size) hl;subst T;have al:=Z a0;have ak:=Z aB;have O:=Z P;have bj:=Z j;go_wp2_with fail;refine aP.mono ?_;rintro e C⟨rfl,U⟩;have aI:=U.size;simp only[Za.alloc,X7]at aI;have ai:Ze<|Zd wr.heap.size wr C:=ak.trans<|U.mono ak.size;have L:Ze<|C.heap[wr.heap.size]?=some (.cells #[.string ⟨y.name.toArray⟩,.pointer pa] 259):=(U.block _<|lB al).trans al;cases hix:dY t y.name with
   |none=>
    have c:=Z<|R 2 (C.alloc<|.cells #[.int .i64<|-1] 3) (by rw[d.go,J];exact sX hix) (.inl rfl)<|((o.trans<|d.set.d.mono q).trans<|ai.mono<|Wf q d.set.d.size).alloc (by have:=d.set.d.size;omega) _;simp only[fI];go_wp2;exact c
   |some k=>
    simp only[fI];have aD:k<t.a.length:=K7 hix;have aA:Zd C.heap.size C<|C.alloc<|.cells #[.int .i64 (k:Nat)] 3:=(VM _ _).alloc (VR _) _;have bp:C.heap.size<(C.alloc<|.cells #[.int .i64 (k:Nat)] 3).heap.size:=by simp
    have aG:(C.alloc<|.cells #[.int .i64 (k:Nat)] 3).heap[C.heap.size]?=some (.cells #[.int .i64 (k:Nat)] 3):=aM _ _;have ae:=(d.set.below ai).below aA;have D:=Z<|GV k ae.rows ae.g (by rw[d.len];omega) aG;have aV:=Z aG;have aq:=Z ae;have M:Ze<|(C.alloc<|.cells #[.int .i64 (k:Nat)] 3).heap[wr.heap.size]?=some (.cells #[.string ⟨y.name.toArray⟩,.pointer pa] 259):=(aA.block _<|lB L).trans L;have Q:=Z hix;unfold OC at D;cases hct:(places b).contains k with
    |true=>
     rw[hct]at D;have c:=Z hct;go_wp2_with fail;refine D.mono ?_;rintro e G⟨rfl,r⟩;have x:=aq.below r;have E:=Z<|R 2 G (by rw[d.go,J];exact rD Q c) (.inl rfl)<|o.trans<|x.d.mono q;go_wp2;exact E
    |false=>
     rw[hct]at D;have am:=Z hct;go_wp2_with fail;refine D.mono ?_;rintro e I⟨rfl,V⟩;have G:=aq.below V;have r:Zd w.heap.size w I:=o.trans<|G.d.mono q;have af:I.heap[C.heap.size]?=some (.cells #[.int .i64 (k:Nat)] 3):=(V.block _<|by simp).trans aV;have ag:I.heap[wr.heap.size]?=some (.cells #[.string ⟨y.name.toArray⟩,.pointer pa] 259):=(V.block _<|lB M).trans M;have x0:=bC af 0;have y0:=bC ag 0;have y1:=bC ag 1;simp at x0 y0 y1;have xz:=lB af;have yz:=lB ag;have t1:=(VK<|r.block n hn).trans K;have tz:n<I.heap.size:=VT hn r.size;obtain⟨g2,bf,a1,a2,q0,q1⟩:=(ao.aL λk hk=>r.block k hk).d<|VE aD;cases a1;have bg:g2<I.heap.size:=VT a2 r.size;have bm:(k:Int)<(t.a.length:Nat):=by omega
     have au:Ze<|(t.a.getD k ([],0)).2=t.a[k].2:=by rw[Ze,Wm,VE aD];rfl
     generalize t.a[k].2=ty at*;have aC:∀W,Zd l.heap.size l W->nh W y.aW (.pointer pa) (ax t.name t) (.slice va vn vc):=λW hW=>by have c:=o.trans<|hW.mono q;exact⟨HR.aL<|c.block _ ap,VT ap c.size,((S.2 _ O).aL λk hk=>c.block k hk).more c.size,aO _ O,(an.aL λk hk=>hW.block k hk).more hW.size,by rw[ax,VL];exact hl⟩
     have ah:Ze (∀W,Zd l.heap.size l W->_):=λW hW=>Ru<|qe ty<|aC W hW;have aJ:Ze<|Zd l.heap.size l I.drew:=G.d.drew;have aK:Ze<|Zd l.heap.size l (I.alloc<|.cells #[.slice none 0 0] 204).drew:=(G.d.alloc G.d.size _).drew;have aX:Ze<|(I.alloc<|.cells #[.slice none 0 0] 204).drew.heap[I.heap.size]?=some (.cells #[.slice none 0 0] 204):=aM I _;have ar:=Z G;have av:=Z af;go_upto_region 9 with fail
     go_cut [11,12]from 22 to 60 (λbb bc wx=>∃(xb:Nat) (p4:Y8) (n4 c4 E:Nat),bb=.pointer (some ⟨xb,0,none⟩)/\bc=.int .i64 (E:Nat)/\Ze (Rm I wx xb (ax t.name t) y.aW ty p4 n4 c4 E))
     case first=>
      go_region_law (first
       | (refine eN rfl (.tmp 38) (.tmp 39) (.tmp 47) rfl AU (by simp[Act.eval,Act.put]) (by simp[Act.eval,Act.put]) (by simp[Act.eval,Act.put]) (ah _ aJ) ?_
          rintro v5 w5⟨p5,n5,c5,aY,rfl,c,x⟩;have Y:=Z<|And.intro c x
          clear c x)
       | (refine eN rfl (.tmp 38) (.tmp 39) (.tmp 47) rfl AU (by simp[Act.eval,Act.put]) (by simp[Act.eval,Act.put]) (by simp[Act.eval,Act.put]) (ah _ aK) ?_
          rintro v5 w5⟨p5,n5,c5,aY,rfl,c,x⟩;have H:=(c.block _<|by simp[Za.drew]).trans aX;have r0:=bC H 0;have rf:=bF H 0;simp at r0;have rz:=lB H;have aW:=Z H;have N:=Z<|And.intro c x
          clear c x H))
      all_goals go_wp2_with fail
      all_goals go_meet
      all_goals first
       |exact⟨_,_,_,_,_,rfl,rfl,M9 Y.1 Y.2⟩
       |exact⟨_,_,_,_,_,rfl,rfl,K_ (by simpa[Za.drew]using N.1) aW.o<|by simpa[Za.drew]using N.2⟩
     obtain⟨xb,p4,n4,c4,E,rfl,rfl,c⟩:=hcut;have H:=ar.below c.d;have aH:wc.heap[C.heap.size]?=some (.cells #[.int .i64 (k:Nat)] 3):=(c.d.block _<|lB av).trans av;have z0:=bC aH 0;have p0:=bC c.g 0;simp at z0 p0;have zz:=lB aH;have pz:=lB c.g;have aj:Ze<|Zd w.heap.size w wc:=o.trans<|H.d.mono q;obtain Y|⟨rfl,ba,ad⟩:=c.a
     .have N:((E:Int) != 0)=true:=by have:=fu Y;simp;omega
      have x:=Z<|R E wc (by rw[d.go,J];exact uL Q am (by rw[au];exact Y)) (fu Y) aj;go_wp2;exact x
     have aQ:=Z ad;have aT:=Z ba;have aR:=Z H;have ac:=H.own;have N:=Z d.len;have bq:l.heap.size<=wc.heap.size:=H.d.size;go_wp2_with (at_builtin;refine Wv _ rfl (.tmp 54) (.tmp 58) 214 rfl l.heap.size 275 i0 _ 2 32 underlying214 hi a5 a6 a7 rfl (by decide) _ _ _ rfl (ac.alloc _) ⟨wc.heap.size,0,none⟩ 1 1 (KC (k,y.aW,.slice p4 n4 c4)) rfl rfl ?c1 ?c2 ?c3 ?c4 ?c5 ?_)
     case c1=>exact cW wc (KC (k,y.aW,.slice p4 n4 c4)) 275
     case c2=>intro x hx;simp[KC]at hx;obtain rfl|rfl:=hx<;>rfl
     case c3=>have:=N.o;unfold Zj;omega
     case c4=>have:=N.o;omega
     case c5=>simp;omega
     intro v' w6 ab a3 bi a8;have a_:=aR.below<|(VM wc.heap.size wc).alloc (VR _)<|.cells (KC (k,y.aW,.slice p4 n4 c4)).toArray 275;have aN:Ze<|Rr l w6 t h (i+1) v'<|b++[(k,y.aW,.slice p4 n4 c4)]:=by
      refine⟨a_.push (k:=k) (t:=y.aW) (u:=.slice p4 n4 c4) ?_ (by simpa using ab) a3<|by simpa using a8,?_,?_,?_⟩
      .refine(iE.aL aQ λk hk=>V2 _ _ _ hk.2).mono (λk hk=>⟨by have:=hk.2;simp;omega,λe=>?_⟩);have:=(ar.own.lt k e).2;have:=hk.1;omega
      .rw[d.go,J,sY Q am<|au▸aT];simp[places]
      .rw[Wc,d.trees,aU];rfl
      rw[VH,d.len];rfl
     go_wp2;go_roundw;exact⟨i+1,_,by omega,by go_num,aN⟩;simp[Zk];omega
  obtain rfl:i=h.length:=by omega
  have h1:=d.go;have h2:=d.trees;rw[Wa]at h1;rw[Wj]at h2;have c:=Z<|aw b _ wr h1 h2<|d.set.c o;go_wp2;exact c
