import Derived.Test.YtojdpjpldokjmaaGreatDoorC11
set_option maxHeartbeats 0
set_option maxRecDepth 100000
set_option linter.all false
namespace Go.Proofs.YtojdpjpldokjmaaGreatDoor
open Go.Deep Go.RowKit Tryz
open Go renaming World->Za,Value->Zb,Calls->Zc,Ending->Zg,results->Zh,callFunc->Zi
open RowKit renaming Below->Zd,Hid->Ze,intOf->Zk
variable{F:YY}{o:YZ}{i j k n:Nat}{W w x:World}{G H:Y7}{g:Y5}{K:aI}{A B u z:Value}{R:aA}{X Y:YX}{I:YW}{r:List (ay×Value)}{N:List YW}
def AW{a:Y6}:∀{rows out:List YW},aU F a rows=.ok out->out.length=rows.length
 |[],out,h=>by simp[aU]at h;subst h;rfl
 |r::rs,out,h=>by
  rw[aU]at h;cases ha:bH F r a with
  |error e=>rw[ha]at h;cases h
  |ok v=>
   rw[ha]at h;simp only at h;cases hr:aU F a rs with
   |error e=>rw[hr]at h;cases h
   |ok vs=>rw[hr]at h;cases h;simp[AW hr]
def Oe:(part o n k).Sublist o:=(YT _ _).trans<|Yn _ _
def Qf{f:Nat}{b:Y_}{j:aV (List YW)}{g:List Bool}(h:Zc prog f b W<|zV W j o g):Zc prog f b W λe k=>∃v,e=.returned v/\∃(a:Zb)(c:Int),v=.tuple #[a,qI c]/\zV W j o g (.returned<|.tuple #[a,qI c]) k:=by
 refine h.mono ?_;rintro e k⟨i,⟨c,d,rfl⟩|⟨dy,qs,v,d,l,n,p,rfl,q⟩⟩
 .exact⟨_,rfl,_,_,rfl,i,.inl ⟨c,d,rfl⟩⟩
 exact⟨_,rfl,_,_,rfl,i,.inr ⟨dy,qs,v,d,l,n,p,rfl,q⟩⟩
def Pw(X:dD){L:Nat}(a6:tp j L)(bb:j<=1048576){b:Nat}{s:aX}{ss:List (ay×Zb)}{vs:List (aA×Zb)}{ks:List Key}{v:Zb}(h:pY w G b g K)(d:Al w n s ss vs ks u A v B)
 (k:∀is rows,bP K [] [[]] is s.b=.ok rows->rows.length<=j)(l:s.a=true->vS)(a:s.e.length<=L)(c:s.a=true->kO w):
 Zc prog 69 #[qP b,qP n] w (pZ w<|ch K s):=by
 have i:=Z<|Ch h d;have U:=Z d;have V:=Z h;have HN:=Z k;have a3:=Z l;have aJ:=Z c;have ba:=Z a;have hn:=lB d.q;clear h d k l c a;go_in;go_wp2_with refine i.mono ?_;rintro e w1⟨o,l⟩;clear i;have bn:=o.size;obtain⟨D,d,bc,rfl⟩|⟨is,N,M,P,sv,vv,wv,ov,T,rfl,k⟩:=l
 .have c:((D:Int) != 0)=true:=by simp;omega
  have a:Ze<|pZ w (ch K s) (.returned<|.tuple #[qN,qI (D:Nat)])<|w1.alloc<|.cells #[qN,qN,qN,qN] 221:=⟨o.alloc (by omega) _,.inl ⟨D,d,rfl⟩⟩;clear o d bc;go_wp2;go_ret2;exact a
 ·obtain ⟨aT,aV,bk⟩:=k.b.slice;obtain⟨ar,au,bl⟩:=k.c.1.slice;obtain⟨aW,a0,aY,bm⟩:=k.d.slice;obtain⟨ap,aq,bh⟩:=k.k.1.slice;subst bk;subst bl;subst bm;subst bh;have E:qB w1<|w1.alloc<|.cells #[.slice aT N.length aV,.slice ar M.length au,.slice aW a0 aY,.slice ap P.length aq] 221:=qA;have aS:=aM w1<|.cells #[.slice aT N.length aV,.slice ar M.length au,.slice aW a0 aY,.slice ap P.length aq] 221;have t:=o.trans<|E.mono bn;have C:=k.below E;have x:=V.below t;have I:N.length=s.b.length:=by
   have a:=k.a.1;have:∀{ab:YY} {is:Y4} {aN:Y3} {N:List gU},Am K g ab is aN N->N.length=aN.length:=by
    intro ab is aN N
    induction N generalizing ab is aN with
    |nil=>intro h;cases is<;>cases aN<;>first|rfl|exact h.elim
    |cons p N ih=>intro h;cases is<;>cases aN<;>first|exact h.elim|(simp[ih h.2])
   exact this k.e
  have H:s.b.length<=3/\s.b≠[]:=by obtain⟨a,r,e,_,_,S,_⟩:=U.ok.b U.aC;rw[e];simp;omega
  have W:N≠[]:=by intro e;rw[e]at I;exact H.2<|V3.1 I.symm
  have J:∀i∈is,(g.getD i sr).us.length=(ak K i).rows.length/\i<K.length:=λi hi=>⟨(x.us<|k.a.2 i hi).2.1,k.a.2 i hi⟩;have z:jg N [[]]=bP K [] [[]] is s.b:=Bd k.e λi hi=>(J i hi).1;have q:∀r∈([[]]:List YW),aZ [] r:=by intro r S;simp at S;subst S;exact aZ.d []
  have R:pD N [[]]:=Dz V.ok k.e J (λit hi=>by
   have:=U.b.ok;rw [<-U.g] at hi;obtain ⟨y,hy,rfl⟩:=VV.1 hi;exact this y hy) k.n q (by simp;omega) (by
   have:N.length<=3:=by omega
   calc ([[]]:List YW).length*25 ^ N.length<=1*25 ^ 3:=YK (by simp) (Xo (by omega) this)
    _<=20000:=by decide)
  have HJ:=Z (NF X C.b W (by omega) (λy hy=>by
   obtain⟨c,i,it,u',hi,e⟩:=Am.at k.e y hy
   exact QC x (k.a.2 i hi) e<|C.o y hy) R)
  rw[z]at HJ;have O:Ze (∀e,bP K [] [[]] is s.b=.error e->e=4\/e=5):=λe he=>uu<|z▸he;have Q:Ze (∀rows,bP K [] [[]] is s.b=.ok rows->(∀r∈rows,aZ (aw K is s.b) r)/\rows.length<=20000):=λrows S=>by
   obtain⟨a,p⟩:=sL V.ok k.a.1 k.a.2 q S;refine⟨by simpa using a,Wf p ?_⟩;have:is.length<=3:=by rw[k.a.1];exact H.1
   calc ([[]]:List YW).length*25 ^ is.length<=1*25 ^ 3:=YK (by simp) (Xo (by omega) this)
    _<=20000:=by decide
  have Y:=Z k;have av:=Z t;have a7:=Z aS;have F:=Z T;clear o k E aS t C x I H W J z q R T;go_wp2_with refine HJ.mono ?_;rintro e w3⟨o,l⟩;have x:=bB o (by simp) a7;have z:qB w w3:=av.trans<|o.mono av.size;have k:qB w1 w3:=(qA).trans<|o.mono (by simp);have ax:=Z z;have a8:=Z x;have ad:=Z k;have bo:=lB x;have y2:=bC x;clear HJ;obtain⟨D,d,rfl⟩|⟨js,jv,t,rfl,E⟩:=l
  .have p:((D:Int) != 0)=true:=by have:=O.o D d;simp;omega
   have a:Ze<|pZ w (ch K s) (.returned<|.tuple #[qN,qI (D:Nat)]) w3:=⟨z,.inl ⟨D,by rw[F,zJ d],rfl⟩⟩;clear d o x z k;go_wp2;go_ret2;exact a
  obtain⟨bE,bF,bf⟩:=bN E.1;have H:=Y.below k;obtain⟨T,q⟩:=Q.o _ t;have a:∀p∈js,aZ (aw K is s.b) p.1:=λp I=>T p.1<|V0 I;simp only[VL]at q;have J:js.length<=j:=by have:=HN.o _ _ t;simpa using this
  have R:=Z<|Rd X E.l H.d H.q (λp I=>⟨(a p I).2.1,W_ (a p I).1.symm⟩) (by omega);have C:Ze<|ch K s=fb (aw K is s.b) s (js.map (·.1)):=by rw[Ze,F,Az t]
  have aa:=Z a;have aD:=Z E;have aE:=Z q;have a2:=Z J;subst bf;clear o x z k t E H T a q J F O Q;generalize a:aw K is s.b=ab at*;have o:=Z a;clear a;go_wp2_with refine R.mono ?_;rintro e w4⟨(J:Ze _),l⟩;have Q:=bB J bo a8;have E:qB w w4:=ax.trans<|J.mono ax.size;have q:qB w1 w4:=ad.trans<|J.mono ad.size;have az:=Z E;have a9:=Z Q;have ae:=Z q;have bp:=lB Q;have ah:=J.size;clear R;obtain⟨D,d,rfl⟩|⟨z,v1,v2,t,rfl,ao,_,_⟩:=l
  .have k:((D:Int) != 0)=true:=by have:=qK d;simp;omega
   have a:Ze<|pZ w (ch K s) (.returned<|.tuple #[qN,qI (D:Nat)]) w4:=⟨E,.inl ⟨D,by rw[C,Fp d],rfl⟩⟩;clear d J Q E q;go_wp2;go_ret2;exact a
  obtain⟨(O:Ze _),_,zl⟩:=me t;obtain⟨bI,bJ,H⟩:=bN ao;obtain⟨bK,bM,bL,T⟩:∃a n c,v2=.slice a n c:=aF ‹_›;have y3:=bC Q;have F:=U.below E;have d4:=bC F.q 4;simp at d4;have bw:=lB F.q;obtain⟨oa,oc,ho⟩:=F.e.1.slice;have aj:Ze (∀W,qB w4 W->Zc prog 112 #[v1,.slice ap P.length aq,B] W (zV W (aU ab (P.map (·.1))<|z.1.map (·.1)) z.1<|pG ks)):=λW hW=>by
   have aL:qB w3 W:=J.trans<|hW.mono ah;have x:=F.below hW;have am:=Y.below<|q.trans<|hW.mono q.size;have hE:=am.h;have bg:P.length=ks.length:=by have h1:=Wd List.length hE;have h2:=Wd List.length x.a;simp at h1 h2;omega
   exact Nv X a6 ab P (qy (aB hW ao) λp I=>c7 (f:=vC) (λ_=>rfl) (aB aL (aD.2 p<|O p I).1) qZ) (by rw[<-o];exact am.k) x.e.1 (λk hk=>(x.e.2 k hk).ptr) bg (by rw[<-o];exact am.l) (λp I=>aa p<|O p I) (by have:=a2.o;omega) bb (by have h1:=x.ok.h;have h2:=Wd List.length x.a;simp at h2;omega) (by have h1:=ba.o;have h2:=Wd List.length x.a;simp at h2;omega)
  have R:=Z t;have a_:=Z zl;rw[H,ho]at aj;rw[ho]at d4;rw[H,T];clear Q E q t F ao H T ho zl;have aC:Ze<|qB w4 w4.drew:=qW.drew;go_upto_region 10 with fail
  go_region_law (refine eN rfl (.tmp 39) (.tmp 41) (.tmp 45) rfl FK rfl rfl rfl (Qf<|aj _ aC) ?_
                 rintro v5 w5⟨bS,bv,rfl,(F:Ze _)⟩
                 skip)
  all_goals
   obtain⟨t,l⟩:=F.o;have q:qB w4 w5:=aC.trans t;have Q:qB w w5:=az.trans<|q.mono az.size;have E:qB w1 w5:=ae.trans<|q.mono ae.size;have H:=bB q bp a9;have ai:=Z Q;have bs:=Z H;have bA:=lB H;have y1:=bC H;clear F aj t;obtain⟨D,d,he⟩|⟨dy,qs,v',S,hq,hm,hl,he,F⟩:=l
   .simp at he;obtain⟨rfl,rfl⟩:=he;have t:((D:Int) != 0)=true:=by have:=kQ d;simp;omega
    have k:Ze<|pZ w (ch K s) (.returned<|.tuple #[qN,qI (D:Nat)]) w5:=⟨Q,.inl ⟨D,by rw[C];exact Fq R (by rw[<-Y.h];exact d),rfl⟩⟩;clear d q H Q E;go_wp2;go_ret2;exact k
   .simp at he;obtain⟨rfl,rfl⟩:=he;obtain⟨bt,bu,an⟩:=bN F;have k:=Y.below E;have x:qB w3 w5:=J.trans<|q.mono ah;have aP:qs.length<=20000:=by have:=a_.o;have:=aE.o;omega
    have aR:M.length<=1000:=by
     have t:=Wd List.length k.j
     have h2:=Ht U.ok (aw K is s.b) (by
      have k1:=qd V.ok is s.b k.a.2;have k2:=U.b.len;have k3:=Wd List.length U.g;have k4:=k.a.1;simp at k3
      omega)
     simp at t;omega
    have T:=Z<|GG X ab M (.slice ar M.length au) (qy F λp I=>c7 (f:=vC) (λ_=>rfl) (aB x (aD.2 p<|O p<|hm p I).1) qZ) (by rw[<-o];exact k.c) (by rw[<-o];exact k.g) (λp I=>⟨(aa p<|O p<|hm p I).2.1,W_ (aa p<|O p<|hm p I).1.symm⟩) (by omega) aR;have HEq:Ze<|aU ab (M.map (·.1)) (qs.map (·.1))=aU ab (cZ s ab) (fA (z.1.map (·.1)) dy<|s.e.map (·.eC)):=by unfold Ze;rw[hq,U.h,k.j,o]
    have ac:Ze<|aU ab (s.e.map (·.aW)) (z.1.map (·.1))=.ok dy:=by rw[Ze,<-k.h];exact S
    have aH:Ze (∀out,aU ab (M.map (·.1)) (qs.map (·.1))=.ok out->∀v∈out,v.length<=1000/\gY v):=by
     intro out ho v hv
     have h1:=(qk (λt ht=>by obtain ⟨p,I,rfl⟩:=VV.1 ht;exact (k.g p I).1) (λr bi=>by
      obtain⟨p,I,rfl⟩:=VV.1 bi
      exact aa p<|O p<|hm p I) ho).2 v hv
     refine⟨?_,h1.2⟩;have h2:=h1.1;simp at h2;omega
    have a5:=Z aP;rw[an]at T;rw[an];clear S hq hm hl F an k x aP aR q H Q E;go_wp2_with refine T.mono ?_;rintro e w6⟨(al:Ze _),l⟩;have x:qB w w6:=ai.trans<|al.mono ai.size;have bq:=Z x;have bD:=al.size;clear T;obtain⟨D,d,rfl⟩|⟨rs,rv,T,rfl,k,E⟩:=l
    .have t:((D:Int) != 0)=true:=by have:=kQ d;simp;omega
     have q:Ze<|pZ w (ch K s) (.returned<|.tuple #[qN,qI (D:Nat)]) w6:=⟨x,.inl ⟨D,by rw[C];exact Fs R ac (by rw[<-HEq];exact d),rfl⟩⟩;clear d al x;go_wp2;go_ret2;exact q
    obtain⟨bG,bH,bj⟩:=bN k;have Q:Ze<|ch K s=.ok (gQ (if s.a=true then j8 (rs.map (·.1))else rs.map (·.1)) s.offset s.g):=by rw[Ze,C];exact Ft R ac (by rw[<-HEq];exact T)
    have aQ:rs.length<=20000:=by have h1:=AW T;have h2:=a5.o;simp at h1;omega
    have H:=U.below x;have ag:=H.ok.offset;have af:=H.ok.g
    have t:Ze (∀(W:Za) (fs:YZ) (fv:Zb) (base:Nat),qB w6 W->W.ownsRow base 32 1 fv fs.length (df fs)->fs.Sublist rs->fs.map (·.1)=(if s.a=true then j8 (rs.map (·.1))else rs.map (·.1)) ->
     Zc prog 115 #[fv,qI s.offset,qI<|Eh s.g] W λe w'=>∃v,e=.returned v/\((∃a n c,v=.slice a n c)/\pZ w (ch K s) (.returned<|.tuple #[v,qI 0]) w')):=by
     intro W fs fv base hW be F hE;have bd:fs.length<=20000:=Wf F.length_le aQ;have e1:(s.offset.toNat:Int)=s.offset:=YM ag.1;have e2:(((Eh s.g).toNat:Nat):Int)=Eh s.g:=by
      refine YM ?_;unfold Eh;obtain h|h:=af
      .rw[VG h];omega
      split<;>omega
     have hw:=QR base s.offset.toNat (Eh s.g).toNat be (λq hq=>aF<|E.1 q<|F.subset hq) (by omega);rw[e1,e2]at hw;refine hw.mono ?_;rintro e w'⟨hb,u',rfl,S⟩;have aK:qB w6 w':=hW.trans<|hb.mono hW.size;refine⟨u',rfl,aF S,x.trans<|aK.mono x.size,.inr ⟨part fs s.offset.toNat (Eh s.g).toNat,u',?_,rfl,bU S (by have:=hW.size;have:=x.size;omega),((E.below aK).sub<|Oe.trans F).low (by have:=ai.size;omega)⟩⟩;rw[Q,GA fs s.g ag.1 (af.imp id And.left) bd,hE]
    have d0:=bC H.q 0;simp at d0;have bx:=lB H.q;have br:=Z<|And.intro k E;subst bj;cases hdi:s.a with
    |false=>
     have d5:=bC H.q 5;have d6:=bC H.q 6;simp at d5 d6;rw[hdi]at d0 t;have a1:=Z<|t w6.drew rs _ _ qW.drew (aB qW.drew k) (YR _) rfl;clear T k E x H hdi t HEq ac Q C;go_upto_region 18 with fail
     go_region_law (refine eN rfl (.tmp 68) (.tmp 72) (.tmp 76) rfl AV rfl rfl rfl a1 ?_
                    rintro v8 w8⟨⟨bO,bR,bQ,rfl⟩,aO⟩;have a4:=Z aO
                    clear aO)
     all_goals go_wp2_with fail
     all_goals go_ret2;exact a4
    |true=>
     have aG:=Z<|(a3 hdi) rs _ _ w6 ((aJ hdi).aL<|x.block _ (aJ hdi).lt) k E aQ λq hq=>aH _ T q.1<|VV.2 ⟨q,hq,rfl⟩;rw[hdi]at d0 t;clear T k E x hdi HEq ac Q C;go_wp2_with refine aG.mono ?_;rintro e w7⟨C,ts,tv,rfl,E,F,k⟩;obtain⟨ta,tc,T⟩:=bN k;subst T;have x:=H.below C;have d5:=bC x.q;have bz:=lB x.q;have Q:=Z<|t w7.drew ts _ _ C.drew (aB qW.drew k) F (by simpa using E);clear C E F k x H t aG;go_upto_region 18 with fail
     go_region_law (refine eN rfl (.tmp 68) (.tmp 72) (.tmp 76) rfl AV rfl rfl rfl Q ?_
                    rintro F H⟨⟨x,E,C,rfl⟩,k⟩;have t:=Z k
                    clear k)
     all_goals go_wp2_with fail
     all_goals go_ret2;exact t
def KG{b:Nat}(h:pY w G b g K){l:fG}{t:bV}(F:g[i]?=some l)(I:K[i]?=some t){rows:List YW}{us:Y0}{v':Zb}(o:qB w W)
 (a:W.ownsRow w.heap.size 32 1 v' rows.length us)(d:rows=[]->v'=qN)(q:∀(j:Nat)(r:YW)(u:Zb),rows[j]?=some r->us[j]?=some u->Ak W (grown G w W) r u)(D:ec<|cm K i rows):
 (∃cv,W.heap[l.n]?=some (.cells #[qT t.name,cv,l.a] 94)) /\
 fW w.heap.size w G b (cm K i rows) (W.setCell ⟨l.n,2,none⟩ v') (grown G w W) (g.set i ⟨l.n,v',us⟩):=by
 have B:=h.c i l t F I;obtain⟨cv,L,E,M⟩:=B.q;have P:=o.size;have p:W.heap[l.n]?=some (.cells #[qT t.name,cv,l.a] 94):=(o.block _<|h.lt _ B.own).trans L;refine⟨⟨cv,p⟩,?_⟩;have c:∀k,k<w.heap.size->k≠l.n->(W.setCell ⟨l.n,2,none⟩ v').heap[k]?=w.heap[k]?:=λk hk z=>by rw[VN _ _ _ _ z];exact o.block k hk
 have y:∀{base:Nat} {e:TypeId} {size n:Nat} {v:Zb} {J:Y0},W.ownsRow base e size v n J->e≠94->∀k,v.ownBlock=some k->(W.setCell ⟨l.n,2,none⟩ v').heap[k]?=W.heap[k]?:=by intro base e size n v J x N k hk;obtain⟨C,m,O⟩:=eX x hk;exact VN _ _ _ _<|gZ O p N
 have A:∀k,G k->grown G w W k:=λk hk=>.inl hk;refine⟨h.put F I A (λk hk=>?_) (λk hk z H=>c k (h.lt k hk) z) ?_ (λk hk=>.inr (a.lt k hk).1) D,A,λk hk=>hk.imp id λh=>h.1,?_⟩
 .rw[size_set];obtain hk|hk:=hk
  .have:=h.lt k hk;omega
  exact hk.2
 .refine⟨A _ B.own,⟨cv,?_,?_,λk hk=>A k<|M k hk⟩,?_,λk hk=>.inr<|a.lt k hk,d,λj r x C N=>?_⟩
  .have:=bS p 2 v';simpa using this
  .exact cN (aB o E)<|y (aB o E)<|by decide
  .exact cN (bU a qO)<|y a<|by decide
  have:=q j r x C N;exact this.aL (λk hk=>hk)<|y this.1<|by decide
 .refine⟨o.os,o.tape,o.output,by rw[size_set];omega,λk hk=>c k hk.1 λe=>hk.2<|e▸B.own⟩
def AF{s:aX}(h:bO K s.table=none):dm K s=(K,di 2):=by unfold dm;rw[h]
def AG{s:aX}(h:bO K s.table=some i)(a:aT (ax (ak K i).name<|ak K i) (aK s.d) 3=some n):dm K s=(K,di n):=by unfold dm;rw[h];simp only[a]
def AH{s:aX}(h:bO K s.table=some i)(a:aT (ax (ak K i).name<|ak K i) (aK s.d) 3=none)(b:j9 (ax (ak K i).name<|ak K i) (aK s.d) (ak K i).rows=.error n):dm K s=(K,di n):=by unfold dm;rw[h];simp only[a,b]
def AJ{s:aX}{z:List YW×List YW}(h:bO K s.table=some i)(a:aT (ax (ak K i).name<|ak K i) (aK s.d) 3=none)(b:j9 (ax (ak K i).name<|ak K i) (aK s.d) (ak K i).rows=.ok z):dm K s=(cm K i z.2,⟨[],z.1.length,0⟩):=by unfold dm;rw[h];simp only[a,b]
def Jv{z:YZ×YZ}(h:cu F R o=.ok z):j9 F R (o.map (·.1))=.ok (z.1.map (·.1),z.2.map (·.1)):=by rw[fE,h];rfl
def jR{d:Y_}:(Zi 105 d).run prog w=.ok (.enter 105 d) w:=by
 have g:(f105.name == "runtime.NumGoroutine")=false:=by kernel_rfl
 have c: f105.body.isNone=false:=by kernel_rfl
 have a:¬f105.name = "runtime.NumGoroutine":=by simpa using g
 have b:¬f105.body=none:=by intro e;rw[e]at c;cases c
 simp[Zi,go_sem,func105,a,b]
def Nd{d:Y_}:(Zi 107 d).run prog w=.ok (.enter 107 d) w:=by
 have g:(f107.name == "runtime.NumGoroutine")=false:=by kernel_rfl
 have c: f107.body.isNone=false:=by kernel_rfl
 have a:¬f107.name = "runtime.NumGoroutine":=by simpa using g
 have b:¬f107.body=none:=by intro e;rw[e]at c;cases c
 simp[Zi,go_sem,func107,a,b]
def Dx(h:pY w G k g K){l:fG}(u:g[i]?=some l)(t:K[i]?=some (ak K i))(q:ij<|ak K i)(j:YX):
 Zc prog 106 #[qP l.n,qT j] w λe o=>∃v,e=.returned v/\qB w o/\(∃a n c,v=.slice a n c)/\br o o.heap.size 3 lS (ax j<|ak K i) v:=by
 obtain⟨cv,b,p,_⟩:=(h.c i l _ u t).q;have c1:=bC b 1;simp at c1;refine(Jr j (lB b) c1 (pW p) (by have:=q.b;omega)).mono ?_;rintro e o⟨r,v,rfl,d⟩;exact⟨v,rfl,r,aF d,by rw[yw];exact c7 (f:=lS) (λ_=>rfl) d qZ⟩
def FD{f:Nat}{a:Y_}(h:Zc prog f a W<|mj W R F 3):Zc prog f a W λe d=>∃v,e=.returned v/\∃(p n c:_)(b:Nat),v=.tuple #[.agg #[.slice p n c],qI (b:Nat)]/\qB W d/\((aT F R 3=some b)\/(b=0/\aT F R 3=none/\lM d (El W.heap.size d.heap.size) F R (.slice p n c))):=by
 refine h.mono ?_;rintro e d⟨j,⟨b,g,rfl⟩|⟨cv,g,rfl,i⟩⟩
 .exact⟨_,rfl,_,_,_,b,rfl,j,.inl g⟩
 obtain⟨p,n,c,rfl⟩:=i.slice;exact⟨_,rfl,p,n,c,0,rfl,j,.inr ⟨rfl,g,i⟩⟩
def JD{l:fG}{t:bV}(d:B_ w G l t):rO w w.heap.size (t.rows.zip l.us) l.a/\(t.rows.zip l.us).map (·.1)=t.rows/\∀p∈t.rows.zip l.us,Ak w G p.1 p.2:=by
 have e:l.us.length=t.rows.length:=by have:=d.rows.1;omega
 have i:(t.rows.zip l.us).map (·.1)=t.rows:=Ad<|W_ e.symm;have hs:df (t.rows.zip l.us)=l.us:=by
  unfold df;have:∀(a:List YW) (b:Y0),b.length=a.length->(a.zip b).map (·.2)=b:=λa=>by
   induction a with
   |nil=>intro b h;simp at h;subst h;rfl
   |cons x a ih=>intro b h;cases b with
    |nil=>rfl
    |cons y b=>simp[ih b<|by simpa using h]
  exact this _ _ e
 have c:∀p∈t.rows.zip l.us,Ak w G p.1 p.2:=λp g=>by
  obtain⟨j,h,b⟩:=Xe g;have a:(t.rows.zip l.us)[j]?=some p:=by rw[<-b];exact VE h
  rw[Xk]at a;exact d.each j p.1 p.2 a.1 a.2
 refine⟨qy (base:=0) ?_ λp g=>c7 (f:=vC) (λ_=>rfl) (c p g).1 qZ,i,c⟩;rw[hs,WS,e,XB];exact d.rows
def OE{f:Nat}{a:Y_}{o:aV (YZ×YZ)}(h:Zc prog f a W<|E2 W o):Zc prog f a W λe g=>∃v,e=.returned v/\∃(d:Y8)(j c1:Nat)(b:Y8)(k c2:Nat)(c:Nat),v=.tuple #[.slice d j c1,.slice b k c2,qI (c:Nat)]/\qB W g/\(o=.error c\/(c=0/\∃z,o=.ok z/\j=z.1.length/\g.ownsRow W.heap.size 32 1 (.slice d j c1) z.1.length (df z.1)/\g.ownsRow W.heap.size 32 1 (.slice b k c2) z.2.length (df z.2)/\(z.2=[]->(.slice b k c2:Zb)=qN))):=by
 refine h.mono ?_;rintro e g⟨p,⟨c,i,rfl⟩|⟨z,u,w,i,rfl,l,n,t⟩⟩
 .exact⟨_,rfl,_,_,_,_,_,_,c,rfl,p,.inl i⟩
 obtain⟨d,c1,q⟩:=bN l;obtain⟨b,c2,r⟩:=bN n;subst q;subst r;exact⟨_,rfl,d,_,c1,b,_,c2,0,rfl,p,.inr ⟨rfl,z,i,rfl,l,n,t⟩⟩
def JX(ab:YY)(t:aA)(wx:Za)(p:Y8)(n c er:Nat):Prop:=aT ab t 3=some er\/(er=0/\aT ab t 3=none/\i7 wx wx.heap.size ab t (.slice p n c))
def FG{p:Y8}{K:Nat}(a:qB w W)(e:aT F R 3=some j\/(j=0/\aT F R 3=none/\lM W (El K W.heap.size) F R (.slice p n i))):
 qB w (W.alloc<|.cells #[.slice p n i] 204)/\(W.alloc<|.cells #[.slice p n i] 204).heap[W.heap.size]?=some (.cells #[.slice p n i] 204)/\JX F R (W.alloc<|.cells #[.slice p n i] 204) p n i j:=
 ⟨a.alloc a.size _,aM _ _,e.imp id λ⟨b,c,d⟩=>⟨b,c,(d.prog λk hk=>hk.2).below qA⟩⟩
def zZ{p:Y8}{K a:Nat}(g:qB w W)(l:W.heap[a]?=some (.cells #[qN] 204))(b:w.heap.size<=a)(o:a<K)(h:aT F R 3=some j\/(j=0/\aT F R 3=none/\lM W (El K W.heap.size) F R (.slice p n i))):
 qB w (W.setCell ⟨a,0,none⟩<|.slice p n i)/\(W.setCell ⟨a,0,none⟩<|.slice p n i).heap[a]?=some (.cells #[.slice p n i] 204)/\JX F R (W.setCell ⟨a,0,none⟩<|.slice p n i) p n i j:=by
 refine⟨g.setCell b _,by simpa using bS l 0 (.slice p n i),h.imp id λ⟨c,d,e⟩=>⟨c,d,?_⟩⟩;refine lM.prog (Q:=El K W.heap.size) (iE.aL e λk hk=>VN _ _ _ _ (show k≠a by have:=hk.1;omega)) (λk hk=>by rw[size_set];exact hk.2)
def PH(X:dD)(lo:Nat){b:Nat}(s:aX){v:Zb}(h:xX w G b g K)(hn:w.heap[n]?=some (.cells #[qT s.table,v] 201))(hv:xW w w.heap.size s.d v)(hs:eL s)(aC:lo<=w.heap.size):
 Zc prog 67 #[qP b,qP n] w (nj lo w G b<|dm K s):=by
 have ai:=lB hn;have n0:=bC hn 0;have n1:=bC hn 1;simp at n0 n1;have HF:=Z<|FN s.table h.a;have E:=Z h;have HV:=Z hv;have HS:=Z hs;generalize az:dm K s=out;have B:=Z az;have O:Ze (∀er V,out=(K,di er)->qB w V->nj lo w G b out (.returned<|.tuple #[qI 0,qI (er:Nat)]) V):=λer V ho hb=>by rw[ho];exact⟨rfl,G,g,fW.below h.a hb⟩
 have ae:Ze (∀V M' A D' (c:Int),out=(D',⟨[],c,0⟩)->fW lo w G b D' V M' A->nj lo w G b out (.returned<|.tuple #[qI c,qI 0]) V):=λV M' A D' c ho U=>by rw[ho];exact⟨rfl,M',A,U⟩
 generalize nj lo w G b out=aJ at*;obtain⟨va,aF⟩:=hv.ptr;subst aF;cases hta:bO K s.table with
 |none=>
  rw[hta]at HF;have a:=Z<|O 2 w (by rw[<-B];exact AF hta) qW;simp only[iA]at HF;go_in;go_wp2_with apply qS HF;go_wp2;exact a
 |some i=>
  obtain⟨l,(HL:Ze _),(D:Ze _),al⟩:=oG E.a<|cx hta;rw[hta,al]at HF;have hT:=E.a.c i l _ HL D;have o:=E.a.ok.2 _<|dS<|cx hta;obtain⟨cv,y,F,_⟩:=hT.q;have l0:=bC y;have aP:=lB y;have C:=Z hta;have J:=Z o;have x:Ze (∀L,qB w L->_):=λL W=>Dx (E.a.below W) HL D o (ak K i).name;have t:Ze (∀L v',qB w L->br L L.heap.size 3 lS (ax (ak K i).name<|ak K i) v'->_):=λL v' W H=>FD<|qh s.d (ax (ak K i).name<|ak K i) (.pointer va) v' L ⟨(E.below W).rules,(E.below W).d.2,(HV.aL λk hk=>W.block k hk).more W.size,HS.d,H,by rw[cH];have:=o.b;omega⟩;have aa:Ze<|qB w w.drew:=qW.drew;have N:Ze<|qB w (w.alloc<|.cells #[qN] 204).drew:=(qA).drew;have au:Ze<|(w.alloc<|.cells #[qN] 204).drew.heap[w.heap.size]?=some (.cells #[qN] 204):=aM w _;go_in;go_wp2_with fail;apply qR HF;intro w1 h1;rw[h1];go_upto_region 4 with fail
  go_cut [7,8] (λs7 s8 wx=>∃(xb:Nat) (p4:Y8) (n4 c4 q:Nat),s7=qP xb/\s8=qI (q:Nat)/\Ze (qB w wx/\wx.heap[xb]?=some (.cells #[.slice p4 n4 c4] 204)/\JX (ax (ak K i).name<|ak K i) (aK s.d) wx p4 n4 c4 q))
  case first=>
   go_region_law (first
    | (refine dQ rfl (.tmp 24) (.tmp 28) rfl pH rfl rfl (x _ aa) ?_
       rintro v3 Q⟨d,⟨a3,n3,c3,rfl⟩,j⟩;have a:=Z<|aa.trans d;have z:=Z j;have S:n<Q.heap.size:=(by have:=a.size;omega);have T:=(VK<|a.block n ai).trans n1;have P:=Z<|VR 0
       clear d j)
    | (refine dQ rfl (.tmp 24) (.tmp 28) rfl pH rfl rfl (x _ N) ?_
       rintro v3 Q⟨d,⟨a3,n3,c3,rfl⟩,j⟩;have a:=Z<|N.trans<|d.mono N.size;have z:=Z j;have S:n<Q.heap.size:=(by have:=a.size;omega);have T:=(VK<|a.block n ai).trans n1;have I:Ze<|Q.heap[w.heap.size]?=some (.cells #[qN] 204):=(d.block _<|by simp[Za.drew]).trans au
       clear d j)
    | (refine dQ rfl (.tmp 23) (.tmp 29) rfl jR rfl rfl (t _ _ a z) ?_
       rintro v4 w4⟨p4,n4,c4,q,rfl,j,p⟩;have r:=Z<|a.trans<|j.mono a.size;have u:=Z p;have d:=bB j (lB I) I;have r0:=bC d 0;have rf:=bF d 0;simp at r0;have rz:=lB d;have M:=Z d
       clear j p d)
    | (refine dQ rfl (.tmp 23) (.tmp 29) rfl jR rfl rfl (t _ _ a z) ?_
       rintro v4 w4⟨p4,n4,c4,q,rfl,j,p⟩;have r:=Z<|a.trans<|j.mono a.size;have u:=Z p;have R:=P
       clear j p)
    | (refine dQ rfl (.tmp 23) (.tmp 29) rfl jR rfl rfl (t _ _ (a.alloc a.size<|.cells #[qN] 204)<|z.below<|qW.alloc qZ<|.cells #[qN] 204) ?_
       rintro v4 w4⟨p4,n4,c4,q,rfl,j,p⟩;have r:=Z<|(a.alloc a.size<|.cells #[qN] 204).trans<|j.mono<|Wf a.size (by simp);have u:=Z p;have d:=bB j (by simp)<|aM Q<|.cells #[qN] 204;have r0:=bC d;have rf:=bF d 0;have rz:=lB d;have M:=Z d;have Y:=P
       clear j p d))
   all_goals go_wp2_with fail
   all_goals go_meet
   all_goals first
    |exact⟨_,_,_,_,_,rfl,rfl,zZ r M qZ (Z<|lB I).o u⟩
    |exact⟨_,_,_,_,_,rfl,rfl,zZ r M a.size (by simp) u⟩
    |exact⟨_,_,_,_,_,rfl,rfl,FG r u⟩
  obtain⟨xb,p4,n4,c4,q,rfl,rfl,ab⟩:=hcut;obtain⟨(a:Ze _),an,aB⟩:=ab.o;obtain ah|⟨rfl,am,S⟩:=aB
  .have j:((q:Int) != 0)=true:=by have:=fu ah;simp;omega
   have d:=Z<|O q wc (by rw[<-B];exact AG C ah) a;go_wp2;exact d
  have aA:=E.below a;have hT:=aA.a.c i l _ HL D;obtain⟨hm,(P:Ze _),I⟩:=JD hT;have o:=J.o;have T:∀p∈(ak K i).rows.zip l.us,aZ (ax (ak K i).name<|ak K i) p.1:=λp Y=>(o.rows p.1 (by rw[<-P];exact V0 Y)).src;have ag:qB wc wc.drew:=qW.drew;have R:gR (ax (ak K i).name<|ak K i)<|aK s.d:=by obtain⟨j,h1,_⟩:=gv am;exact⟨nV HS.d,j,h1⟩
  have ac:=Z<|OE<|Rd X (hm.below ag) (S.below ag) R (λp Y=>⟨(T p Y).2.1,W_ (T p Y).1.symm⟩) (by rw[WS];have:=o.d;omega);obtain⟨aO,y,aL,_⟩:=hT.q;have aq:=bC y 2;simp at aq;have aN:=lB y;have x0:=bC an;have aQ:=lB an;have ad:=Z am;have ay:=Z I;have aw:=Z T;obtain⟨ra,rc,aE⟩:=bN hT.rows;rw[aE]at ac aq;go_upto_region 7 with fail
  go_region_law (refine dQ rfl (.tmp 40) (.tmp 41) rfl Nd rfl rfl ac ?_
                 rintro v6 w6⟨a1,m1,c1,a2,m2,c2,af,rfl,d,(av:Ze _)⟩;have ar:=Z d
                 clear d)
  all_goals
   have d:qB wc w6:=Zd.trans qW.drew ar;have Q:qB w w6:=a.trans<|d.mono a.size;have aH:=Z Q;obtain M|⟨rfl,z,hz,aD,h1,h2,h3⟩:=av.o
   .have r:((af:Int) != 0)=true:=by have:=qK M;simp;omega
    have j:=Z<|O af w6 (by rw[<-B];refine AH C ad ?_;rw[<-P,fE,M];rfl) Q;go_wp2;exact j
   .obtain⟨_,ao,aG⟩:=me hz;have ap:=Jv hz;rw[P]at ap
    have aj:ec<|cm K i<|z.2.map (·.1):=E.a.ok.set (cx C) (by
     have:=J.d;rw [WS] at aG;simp;omega) (λr H=>by
     obtain⟨p,Y,rfl⟩:=VV.1 H
     exact(aw.o p<|ao p Y).c)
    obtain ⟨⟨cv,F⟩,U⟩:=KG (rows:=z.2.map (·.1)) (us:=df z.2) (v':=.slice a2 m2 c2) E.o.a HL.o D.o Q (by rw [VL];exact bU h2 (show w.heap.size<=wc.heap.size from a.o.size)) (λe=>h3<|Xs.1 e) (λj r u H hu=>by
     rw[VO]at H;unfold df at hu;rw[VO]at hu;cases hj:z.2[j]? with
     |none=>rw[hj]at H;cases H
     |some p=>
      rw[hj]at H hu;cases H;cases hu;have I:=ay.o p<|ao p<|VY hj
      exact(I.aL (λk hk=>hk) λk hk=>d.block k (I.1.lt k hk).2).aL (λk hk=>.inl hk) (λk _=>rfl)) aj
    have HE:=Z<|ae _ _ _ _ z.1.length (by rw[<-B];have:=AJ C ad ap;simpa using this)<|U.low aC;have s2:=bC F;have sf:=bF F 2;have sz:=lB F;subst aD;go_wp2;exact HE
def so{t:bV}{c:YX×Int}(h:∀(j:Nat)(c:YX×Int),j<i->t.a[j]?=some c->c.1≠X)(d:t.a[i]?=some c)(e:c.1=X):dY t X=some i:=by unfold dY;obtain⟨a,b⟩:=VZ.1 d;rw[Xj];refine⟨a,by rw[b];simpa using e,λj g=>?_⟩;have:=h j _ g<|VE (by omega);simpa using this
def sk{t:bV}(h:∀(j:Nat)(c:YX×Int),t.a[j]?=some c->c.1≠X):dY t X=none:=by unfold dY;rw[Ym];intro c a;obtain⟨j,b,rfl⟩:=Xe a;have:=h j _<|VE b;simpa using this
def SE(ob:Nat):Zb:=.func (.func 224) #[] #[.pointer<|some ⟨ob,0,none⟩]
def Um(c a:YX)(g:Int)(d:w.heap[n]?=some (.cells #[.string ⟨a.toArray⟩] 9)):
 Zc prog 224 #[.agg #[.string ⟨c.toArray⟩,.int .i64 g],.pointer<|some ⟨n,0,none⟩] w λe j=>e=.returned (.bool<|decide<|c=a)/\qB w j:=by
 have i:=lB d;have h:=bC d 0;simp at h;have HB:Ze<|qB w<|w.alloc<|.cells #[.string ⟨c.toArray⟩,.int .i64 g] 97:=qA;by_cases b:c=a
 .obtain⟨k,l⟩:=kj b;rw[Xy b];clear b;go_in;go_wp2;go_ret;exact⟨rfl,HB⟩
 .obtain⟨k,l⟩:=ku b;rw[Xd b];go_in;go_wp2;go_ret;exact⟨rfl,HB⟩
def Mz(w:Za)(k:Int)(e:Zg)(w':Za):Prop:=e=.returned (.int .i64 k)/\qB w w'
def Of(t:bV)(b:YX)(p:br w w.heap.size 2 OT t.a u)(S:t.a.length<=1000)(H:w.heap[n]?=some (.cells #[.string ⟨b.toArray⟩] 9)):
 Zc prog 223 #[u,SE n] w (Mz w<|fI<|dY t b):=by
 obtain⟨T,U,rfl⟩:=p.slice;have A:=Z p;have z:=Z H;generalize N:fI (dY t b)=o;have F:=Z N;unfold SE;go_in;go_wp2
 go_loopw [8] (λO wr=>∃(i:Nat),i<=t.a.length/\O=.int .i64 i/\Ze (qB w wr/\∀(j:Nat) (c:YX×Int),j<i->t.a[j]?=some c->c.1≠b)) (λa _=>t.a.length-(Zk a).toNat)
 exact⟨0,qO,rfl,qW,λj s M=>by omega⟩
 case round=>
  obtain⟨i,L,rfl,d⟩:=hrel;have h:=d.1;have l:=h.size;by_cases D:i<t.a.length
  .have r:t.a[i]?=some t.a[i]:=VE D;generalize t.a[i]=s at*;obtain⟨g,cap,J,R,P,Q⟩:=(A.aL λk hk=>h.block k hk).d r;cases J;have K:g<wr.heap.size:=by omega
   have C:wr.heap[n]?=some (.cells #[.string ⟨b.toArray⟩] 9):=(h.block n<|lB H).trans z;have y:=Z<|Um s.1 b s.2 C;have G:=Z r;by_cases q:s.1=b
   ·rw [Xy q]at y;have B:Ze<|o=(i:Int):=by
     unfold Ze;rw[<-F,so d.2 G q];rfl
    clear q;go_wp2_with fail;refine y.mono ?_;rintro e E⟨rfl,x⟩;have HB:=Z<|d.1.trans<|x.mono l;go_wp2;go_ret;exact⟨by rw[B];rfl,HB⟩
   rw[Xd q]at y;have I:Ze (∀(j:Nat) (c:YX×Int),j<i+1->t.a[j]?=some c->c.1≠b):=λj x M E=>by
    by_cases e:j=i
    .subst e;rw[G]at E;cases E;exact q
    exact d.2 j x (by omega) E
   go_wp2_with fail;refine y.mono ?_;rintro e V⟨rfl,B⟩;go_wp2;go_roundw;exact⟨i+1,by omega,by go_num,Z<|d.1.trans<|B.mono l,I⟩;simp[Zk];omega
  obtain rfl:i=t.a.length:=by omega
  have k:Ze<|o=-1:=by unfold Ze;rw[<-F,sk λj c g=>d.2 j c (VZ.1 g).1 g];rfl
  go_wp2;go_ret;exact⟨by rw[k];rfl,d.1⟩
def SF(t:bV)(b:YX)(h:n<w.heap.size)(g:w.cell? ⟨n,1,none⟩=some u)(a:br w w.heap.size 2 OT t.a u)(e:t.a.length<=1000):
 Zc prog 164 #[qP n,qT b] w (Mz w<|fI<|dY t b):=by
 have hB:qB w<|w.alloc<|.cells #[qT b] 9:=qA;have d:=Z<|Of t b (a.below hB) e<|aM _ _;have HB:=Z hB;obtain⟨j,k,rfl⟩:=a.slice;generalize i:fI (dY t b)=o at*;unfold SE at*;go_in;go_wp2_with fail;apply qR d;intro l c;go_wp2;go_ret;exact⟨rfl,Z<|HB.trans<|c.mono HB.size⟩
abbrev Sg:=Nat×aA×Zb
def KC(s:Sg):Y0:=[.int .i64 (s.1:Nat),s.2.2]
def br.y{c:List Sg}{v:Zb}(h:br w n 2 KC c v){s:Sg}(b:c[i]?=some s):∃g cap,v=.slice (some ⟨g,0,none⟩) c.length cap/\g<n /\
 w.cell? ⟨g,i*2,none⟩=some (.int .i64 (s.1:Nat))/\w.cell? ⟨g,i*2+1,none⟩=some s.2.2:=by
 obtain⟨a,cap,rfl,e⟩:=h;obtain⟨g,rfl,j,d⟩:=e (by rintro rfl;simp at b);exact⟨g,cap,rfl,j,d i s b 0 _ rfl,d i s b 1 _ rfl⟩
def OC(ob:Nat):Zb:=.func (.func 166) #[] #[.pointer<|some ⟨ob,0,none⟩]
def UC(k b:Nat)(a:Y8)(m c:Nat)(g:w.heap[n]?=some (.cells #[.int .i64 (b:Nat)] 3)):
 Zc prog 166 #[.agg #[.int .i64 (k:Nat),.slice a m c],.pointer<|some ⟨n,0,none⟩] w λe j=>e=.returned (.bool<|decide<|k=b)/\qB w j:=by
 have i:=lB g;have h:=bC g 0;simp at h;have HB:Ze<|qB w<|w.alloc<|.cells #[.int .i64 (k:Nat),.slice a m c] 275:=qA;by_cases d:k=b
 .have l:((k:Int)==(b:Int))=true:=by simp[d]
  rw[Xy d];clear d;go_in;go_wp2;go_ret;exact⟨rfl,HB⟩
 .have l:((k:Int)==(b:Int))=false:=by simp;omega
  rw[Xd d];go_in;go_wp2;go_ret;exact⟨rfl,HB⟩
def places(ss:List Sg):Y4:=ss.map (·.1)
def OD{b:List Sg}(k:Nat)(y:br w w.heap.size 2 KC b u)(S:∀s∈b,∃a m c,s.2.2=.slice a m c)(W:b.length<=1048577)(H:w.heap[n]?=some (.cells #[.int .i64 (k:Nat)] 3)):
 Zc prog 225 #[u,OC n] w (MC w<|(places b).contains k):=by
 obtain⟨X,Y,rfl⟩:=y.slice;have C:=Z y;have K:=Z S;have B:=Z H;generalize R:(places b).contains k=o;have G:=Z R;unfold OC;go_in;go_wp2
 go_loopw [8] (λT wr=>∃(i:Nat),i<=b.length/\T=.int .i64 i/\Ze (qB w wr/\∀(j:Nat) s,j<i->b[j]?=some s->s.1≠k)) (λa _=>b.length-(Zk a).toNat)
 exact⟨0,qO,rfl,qW,λj s A=>by omega⟩
 case round=>
  obtain⟨i,Q,rfl,p⟩:=hrel;have l:=p.1;have q:=l.size;by_cases r:i<b.length
  .have t:b[i]?=some b[i]:=VE r;have d:=VQ r;generalize b[i]=s at*;obtain⟨g,cap,O,V,U,M⟩:=(C.aL λk hk=>l.block k hk).y t;cases O;have P:g<wr.heap.size:=by omega
   obtain⟨a,m,c,N⟩:=K.o s d;rw[N]at M;have E:wr.heap[n]?=some (.cells #[.int .i64 (k:Nat)] 3):=(l.block n<|lB H).trans B;have z:=Z<|UC s.1 k a m c E;have L:=Z t;have I:=Z d;by_cases h:s.1=k
   ·rw [Xy h]at z;have D:Ze<|o=true:=by
     unfold Ze;rw[<-G,WM];exact VV.2 ⟨s,I,h⟩
    clear h;go_wp2_with fail;refine z.mono ?_;rintro e F⟨rfl,x⟩;have HB:=Z<|p.1.trans<|x.mono q;go_wp2;go_ret;exact⟨i,rfl,by rw[D];simp,by omega,HB⟩
   rw[Xd h]at z;have J:Ze (∀(j:Nat) s,j<i+1->b[j]?=some s->s.1≠k):=λj x A F=>by
    by_cases e:j=i
    .subst e;rw[L]at F;cases F;exact h
    exact p.2 j x (by omega) F
   go_wp2_with fail;refine z.mono ?_;rintro e w1⟨rfl,D⟩;go_wp2;go_roundw;exact⟨i+1,by omega,by go_num,Z<|p.1.trans<|D.mono q,J⟩;simp[Zk];omega
  obtain rfl:i=b.length:=by omega
  have d:Ze<|o=false:=by
   unfold Ze;rw[<-G];cases hc:(places b).contains k with
   |false=>rfl
   |true=>
    rw[WM]at hc;obtain⟨s,hs,h⟩:=VV.1 hc;obtain⟨j,A,rfl⟩:=Xe hs;exact absurd h<|p.2 j _ A<|VE A
  go_wp2;go_ret;exact⟨-1,rfl,by rw[d];simp,by omega,p.1⟩
def GV{d:List Sg}(k:Nat)(b:br w w.heap.size 2 KC d u)(l:∀s∈d,∃a m c,s.2.2=.slice a m c)(j:d.length<=1048577)(i:w.heap[n]?=some (.cells #[qI (k:Nat)] 3)):
 Zc prog 165 #[u,OC n] w (qF (.bool<|(places d).contains k) w):=by
 have h:=Z<|OD k b l j i;obtain⟨r,t,rfl⟩:=b.slice;generalize p:(places d).contains k=o at*;unfold OC at*;go_in;go_wp2_with refine h.mono ?_;rintro e x⟨q,rfl,rfl,hk,g⟩;go_wp2;go_ret;exact⟨rfl,g⟩
def Gu(a:YW):∀u∈c_ a,u.oneCell'=true:=by intro u d;obtain⟨c,_,b⟩:=XJ.1 d;simp[vC]at b;obtain rfl|rfl|rfl:=b<;>rfl
def Ie{v:Zb}(A:oJ w w.heap.size I v)(D:I.length<=1000):
 Zc prog 168 #[v] w (DM w I):=by
 obtain⟨g,c,rfl,x,t⟩:=A;obtain⟨B,hi,e,h,i⟩:=V5 mK;have p:Ze (∀j u,(c_ I)[j]?=some u->(w.alloc<|.cells #[] 34).cell? ((⟨g,0,none⟩:Addr).add j)=some u):=λj u y=>by rw[addr_add];have:=t j u y;rw[VK<|V2 _ _ _ x];exact this
 have o:=Z<|Gu I;have q:Ze<|(c_ I).length=I.length*3:=kB I;have z:=λ(w:Za) (a:Y8) (n c:Nat)=>XY (P:=prog) w 32 _ a n c 0 0 underlying32;go_in;go_wp2_with (at_builtin;refine VS _ rfl (.tmp 5) (.tmp 6) 32 rfl w.heap.size 34 B _ 3 32 underlying32 hi e h i rfl (by decide) _ _ _ rfl (Dn w 34 3) ⟨g,0,none⟩ I.length c (c_ I) rfl ?c0 ?c1 ?c2 ?c3 ?c4 ?c5 ?_)
 case c0=>exact q
 case c1=>exact p
 case c2=>exact o
 case c3=>unfold maxLen;omega
 case c4=>omega
 case c5=>simp
 intro E C b d l;have HB:Ze<|qB w C:=a_ qA d (λk hk=>by simp[Zb.ownBlock]at hk;omega) (by simp);have r:=Z b;go_wp2;go_ret;refine⟨HB,_,rfl,?_⟩;have:=r.o;simpa using this
def Ba{e:ay->Zb->Y0}:∀{aN:Y3}{c:Y0},rG w n e aN c->∃b:List<|ay×Zb,b.map (·.1)=aN/\c=b.flatMap (λp=>e p.1 p.2)/\∀p∈b,cE w n p.1.aW p.2
 |[],c,h=>⟨[],rfl,h,by simp⟩
 |it::aN,c,⟨a,rest,h1,h2,h3⟩=>by
  obtain⟨b,g,h,i⟩:=Ba h3;refine⟨(it,.pointer a)::b,by simp[g],by rw[h1,h];simp,λp d=>?_⟩;obtain rfl|d:=V8.1 d
  .exact h2
  exact i p d
def pK{e:TypeId}{d:ay->Zb->Y0}{b:Y3}{v:Zb}(h:iY w n k e i d b v):∃a:List<|ay×Zb,a.map (·.1)=b/\w.ownsRow k e i v a.length (a.flatMap λp=>d p.1 p.2)/\∀p∈a,xW w w.heap.size p.1.aW p.2:=by obtain⟨r,g,j⟩:=h;obtain⟨a,c,o,q⟩:=Ba j;refine⟨a,c,?_,λp l=>(q p l).c qZ⟩;rw[<-o,<-VL (f:=λp:ay×Zb=>p.1),c];exact g
def Dg{b:Y3}{v:Zb}(h:iY w n k 199 1 Qy b v):∃c:List<|aA×Zb,c.map (·.1)=b.map (·.aW)/\jU w w.heap.size c v:=by
 obtain⟨a,i,j,l⟩:=pK h;refine⟨a.map λp=>(p.1.aW,p.2),by rw[<-i];simp,?_,λp d=>?_⟩
 ·refine c7 (f:=λp:aA×Zb=>[p.2]) (λ_=>rfl) (base:=k) (e:=199) ?_ qZ;have e:(a.map λp=>(p.1.aW,p.2)).flatMap (λp:aA×Zb=>[p.2])=a.flatMap (λp=>Qy p.1 p.2):=by
   rw[Yt];rfl
  rw[e,VL];exact j
 obtain⟨q,g,rfl⟩:=VV.1 d;exact l q g
def NC{a:Y3}{v:Zb}(h:iY w n k 328 2 Qx a v):∃ks:List Key,ks.map (·.1)=a.map (·.aW)/\pG ks=a.map (·.eC)/\Mu w w.heap.size ks v:=by
 obtain⟨b,c,i,j⟩:=pK h;refine⟨b.map λp=>(p.1.aW,p.2,p.1.eC),by rw[<-c];simp,by rw[<-c];simp[pG],?_,λp d=>?_⟩
 ·refine c7 (f:=IU) (λ_=>rfl) (base:=k) (e:=328) ?_ qZ;have e:(b.map λp=>(p.1.aW,p.2,p.1.eC)).flatMap IU=b.flatMap (λp=>Qx p.1 p.2):=by
   rw[Yt];rfl
  rw[e,VL];exact i
 obtain⟨q,g,rfl⟩:=VV.1 d;exact j q g
def NB{s:aX}{v:Zb}(h:iY w n k 97 2 SL s.c v):w.ownsRow k 97 2 v (fJ s).length<|EJ<|fJ s:=by
 obtain⟨b,a,e,g⟩:=pK h;have c:(fJ s).length=b.length:=by rw[fJ,<-a];simp
 have d:EJ (fJ s)=b.flatMap (λp=>SL p.1 p.2):=by rw[EJ,fJ,<-a,Ww,Yt];rfl
 rw[c,d];exact e
def ND{s:aX}{v:Zb}(h:iY w n k 324 4 EA s.b v)(B:eL s)(x:s.aC=115)(z:i4 w)(u: 9<w.heap.size):∃j:List<|ay×Zb,j.map (·.1)=s.b/\x5 w j v:=by
 obtain⟨D,d,i,C⟩:=pK h;obtain⟨a,r,e,q,_,A,c⟩:=B.b x;refine⟨D,d,c7 (f:=Rc) (λ_=>rfl) i qZ,C,λp y=>?_,?_,λE G F o=>?_,z,u⟩
 .have g:p.1∈s.b:=by rw[<-d];exact V0 y
  rw[e]at g;obtain b|b:=V8.1 g
  .rw[b];exact .inl q
  exact .inr<|c _ b
 .have:=Wd List.length d;rw[e]at this;simp at this;omega
 obtain⟨g,l,b,t⟩:=cz i;rw[o]at b;cases b;exact t
def Il{s:aX}(h:Ae w k i s n)(d:eL s)(c:s.aC=115)(C:s.all=false->s.c≠[])(B:i4 w)(z: 9<w.heap.size):∃b G ks u x v o,Al w n s b G ks u x v o:=by
 obtain⟨_,h⟩:=h;rw[VF<|by omega,VF<|by omega,VF<|by omega,VF<|by omega]at h;obtain⟨u,x,v,o,j,a,D,l,A⟩:=h;obtain⟨b,t,y⟩:=ND D d c B z;obtain⟨ks,p,q,r⟩:=NC A;cases ha:s.all with
 |true=>
  rw[ha,VG rfl]at a;exact⟨b,[],ks,u,x,v,o,j,y,t,λ_=>a,λe=>(by rw[ha]at e;cases e),l.c qZ,r,p,q,d,c⟩
 |false=>
  rw[ha,VF<|by simp]at a;obtain⟨F,g,E⟩:=Dg a;refine⟨b,F,ks,u,x,v,o,j,y,t,λe=>by(rw[ha]at e;cases e),λ_=>⟨E,g,λe=>?_⟩,l.c qZ,r,p,q,d,c⟩;rw[e]at g;exact C ha<|Xs.1 g.symm
def GJ(x:ai):∀(row:YW)(k:Nat),k<row.length->(((c_ row).set (k*3)<|qI x.aC).set (k*3+1)<|qI x.n).set (k*3+2) (qT x.s)=c_ (row.set k x)
 |[],k,h=>by simp at h
 |r::row,0,_=>by simp[c_,vC]
 |r::row,k+1,h=>by
  have e:∀l:YW,c_ (r::l)=qI r.aC::qI r.n::qT r.s::c_ l:=λl=>by simp[c_,vC]
  rw[Yh,e,e,<-GJ x row k (by simpa using h)];rw[show(k+1)*3=k*3+1+1+1 by omega];simp only[Yh,show k*3+1+1+1+1=(k*3+1)+1+1+1 by omega,show k*3+1+1+1+2=(k*3+2)+1+1+1 by omega]
def xB(w:Za)(g o:Nat)(x:ai):Za:=((w.setCell ⟨g,o,none⟩<|qI x.aC).setCell ⟨g,o+1,none⟩<|qI x.n).setCell ⟨g,o+2,none⟩<|qT x.s
def BA{c k:Nat}{row:YW}{x:ai}(h:w.ownsRow i 34 3 (qL j n c) row.length<|c_ row)(o:k<row.length):(xB w j (k*3) x).ownsRow i 34 3 (qL j n c) (row.set k x).length<|c_<|row.set k x:=by
 obtain⟨u,d⟩:=h;obtain⟨b,_⟩|⟨t,cap,a,r,e,l,g,p,hs,q⟩:=d
 .cases b
 cases r;refine⟨by rw[kB],.inr ⟨j,c,_,by rw[Wu],e,bS (bS (bS l _ _) _ _) _ _,by rw[Wu];exact g,p,by simp[hs],?_⟩⟩;rw[<-GJ x row k o,<-q];simp[List.take_set]
def Ii{s:aX}(h:Ae w k i s n)(c:s.aC=99):∃cv,w.heap[n]?=some (.cells #[qT s.table,cv] 190)/\w.ownsRow i 97 2 cv (fJ s).length (EJ<|fJ s):=by obtain⟨_,h⟩:=h;rw[VG c]at h;obtain⟨v,a,b⟩:=h;exact⟨v,a,NB b⟩
def Ik{s:aX}(h:Ae w k i s n)(e:s.aC=105):∃b a,w.heap[n]?=some (.cells #[qT s.table,b] 194)/\a.map (·.1)=s.c.map (·.aW)/\jU w w.heap.size a b:=by obtain⟨_,h⟩:=h;rw[VF<|by omega,VG e]at h;obtain⟨v,c,d⟩:=h;obtain⟨a,g,j⟩:=Dg d;exact⟨v,a,c,g,j⟩
def Ij{s:aX}(h:Ae w k i s n)(c:s.aC=100):∃v,w.heap[n]?=some (.cells #[qT s.table,v] 201)/\xW w w.heap.size s.d v:=by obtain⟨_,h⟩:=h;rw[VF<|by omega,VF<|by omega,VG c]at h;obtain⟨v,a,b⟩:=h;exact⟨v,a,b.c qZ⟩
def Vm(p:ay×Zb):Y0:=Tj p.1 p.2
def CW(w:Za)(hi:Nat)(ps:List<|ay×Zb)(v:Zb):Prop:=br w hi 2 Vm ps v/\∀p∈ps,xW w hi p.1.aW p.2
def CW.below{v:Zb}(h:CW w w.heap.size r v)(a:qB w W):CW W W.heap.size r v:=⟨h.1.below a,λp b=>((h.2 p b).aL λk hk=>a.block k hk).more a.size⟩
def Im{s:aX}(h:Ae w k i s n)(e:s.aC=117):∃u v a,w.heap[n]?=some (.cells #[qT s.table,u,v] 213)/\a.map (·.1)=s.c/\CW w w.heap.size a u/\xW w w.heap.size s.d v:=by obtain⟨_,h⟩:=h;rw[VF<|by omega,VF<|by omega,VF<|by omega,VG e]at h;obtain⟨u,v,b,c,d⟩:=h;obtain⟨a,g,j,l⟩:=pK c;exact⟨u,v,a,b,g,⟨c7 (f:=Vm) (λ_=>rfl) j qZ,l⟩,d.c qZ⟩
def sX{t:bV}{a:Y4}{b:ay}{c:Y3}(h:dY t b.name=none):b_ t a (b::c)=.error 2:=by rw[b_,h]
def rD{t:bV}{a:Y4}{b:ay}{c:Y3}(h:dY t b.name=some k)(d:a.contains k=true):b_ t a (b::c)=.error 2:=by rw[b_,h];simp only[VG d]
def uL{t:bV}{a:Y4}{b:ay}{c:Y3}{e:Nat}(h:dY t b.name=some k)(d:a.contains k=false)(g:aT (ax t.name t) b.aW ((t.a.getD k ([],0)).2)=some e):b_ t a (b::c)=.error e:=by rw[b_,h];simp only[d,WJ,if_false,g]
def sY{t:bV}{a:Y4}{b:ay}{c:Y3}(h:dY t b.name=some k)(d:a.contains k=false)(e:aT (ax t.name t) b.aW ((t.a.getD k ([],0)).2)=none):b_ t a (b::c)=b_ t (a++[k]) c:=by rw[b_,h];simp only[d,WJ,if_false,e]
structure rI(w wr:Za)(ab:YY)(sv:Zb)(sgs:List Sg):Prop where
 d:qB w wr
 own:wr.ownsRow w.heap.size 275 2 sv sgs.length<|sgs.flatMap KC
 e:∀s∈sgs,lM wr (ph wr sv) ab s.2.1 s.2.2
def rI.below{wr:Za}{a:List Sg}(h:rI w wr F u a)(b:qB wr W):rI w W F u a:=
 ⟨h.d.trans<|b.mono h.d.size,aB b h.own,λs hs=>(iE.aL (h.e s hs) λk hk=>(hk.below b).2).mono λk hk=>(hk.below b).1⟩
def rI.push{u:Zb}{a:List Sg}{k:Nat}{t:aA}(h:rI w W F z a)(e:lM W (ph W z) F t u)(c:x.ownsRow w.heap.size 275 2 A (a.length+1)<|a.flatMap KC++KC (k,t,u))(b:W.grownBy x z.ownBlock)(d:A.ownBlock=z.ownBlock\/A.ownBlock=some W.heap.size):rI w x F A<|a++[(k,t,u)]:=by
 refine⟨a_ h.d b (λk hk=>(h.own.lt k hk).1) h.d.size,by simpa using c,λs hs=>?_⟩;obtain hs|hs:=V1.1 hs
 .exact(iE.aL (h.e s hs) λk hk=>(ph.push b d hk).2).mono (λk hk=>(ph.push b d hk).1)
 simp at hs;subst hs;exact(iE.aL e λk hk=>(ph.push b d hk).2).mono (λk hk=>(ph.push b d hk).1)
def vW(w:Za)(t:bV)(aN:Y3)(e:Zg)(w':Za):Prop:=qB w w' /\
 ((∃er:Nat,b_ t [] aN=.error er/\(er=2\/er=3)/\e=.returned (.tuple #[qN,qI (er:Nat)])) \/
  (∃sgs v,b_ t [] aN=.ok (places sgs)/\sgs.map (λs=>s.2.1)=aN.map (·.aW)/\e=.returned (.tuple #[v,qI 0])/\rI w w' (ax t.name t) v sgs))
def E6:Prop:=∀(lo:Nat)(w:Za)(M:Y7)(b n:Nat)(lay:Y5)(D:aI)(s:aX)(ps:List<|ay×Zb)(u v:Zb),xX w M b lay D->w.heap[n]?=some (.cells #[qT s.table,u,v] 213)->ps.map (·.1)=s.c->CW w w.heap.size ps u->xW w w.heap.size s.d v->eL s->s.aC=117->lo<=w.heap.size ->
 Zc prog 68 #[qP b,qP n] w (nj lo w M b<|cS D s)
structure nu(k:Nat)(w w':Za):Prop where
 os:w'.os=w.os
 tape:w'.tape=w.tape
 output:w'.output=w.output
 size:w'.heap.size=w.heap.size
 block:∀j,j≠k->w'.heap[j]?=w.heap[j]?
def nu.refl(k:Nat)(w:Za):nu k w w:=⟨rfl,rfl,rfl,rfl,λ_ _=>rfl⟩
def nu.set(h:nu k w W)(o:Nat)(v:Zb):nu k w<|W.setCell ⟨k,o,none⟩ v:=
 ⟨h.os,h.tape,h.output,by rw[size_set];exact h.size,λj a=>by rw[VN _ _ _ _ a];exact h.block j a⟩
def fW.boxed{o:Obj}(h:fW n (w.alloc o) G i K W H g)(a:nu w.heap.size W x)(b:H w.heap.size->x.heap[w.heap.size]?=W.heap[w.heap.size]?):fW n w G i K x H g:=by
 have hk:∀k,H k->x.heap[k]?=W.heap[k]?:=λk hk=>by
  by_cases e:k=w.heap.size
  .subst e;exact b hk
  exact a.block k e
 refine⟨h.a.aL (W_ a.size.symm) hk,h.sub,h.new,a.os.trans h.aL.os,a.tape.trans h.aL.tape,a.output.trans h.aL.output,?_,λk hk=>?_⟩
 .have:=h.aL.size;simp at this;rw[a.size];omega
 rw[a.block k<|by omega,h.aL.block k ⟨by simp;omega,hk.2⟩,V2 _ _ _ hk.1]
def rP(base:Nat)(w':Za)(M M':Y7)(rows:List YW)(rv:Zb):Prop:=∃qs:YZ,rows=qs.map (·.1)/\w'.ownsRow base 32 1 rv qs.length (df qs)/\fP w' base qs/\(rv=qN\/M'=M)
def rP.nil(a:Nat)(c:Za)(M b:Y7):rP a c M b [] qN:=⟨[],rfl,nG,⟨by simp,.nil⟩,.inl rfl⟩
def ld(lo:Nat)(w:Za)(M:Y7)(b:Nat)(o:aI×iW)(e:Zg)(w':Za):Prop:=
 ∃rv M' lay',e=.returned (.tuple #[.agg #[rv,qI o.2.count],qI (o.2.err:Nat)])/\fW lo w M b o.1 w' M' lay'/\rP w.heap.size w' M M' o.2.rows rv
def PJ{s:aX}(h:s.aC=99):d_ K s=dk K s:=by unfold d_;rw[VG h]
def Nb{s:aX}(h:s.aC=105):d_ K s=dI K s:=by unfold d_;rw[VF<|by omega,VG h]
def AL{s:aX}(h:s.aC=100):d_ K s=dm K s:=by unfold d_;rw[VF<|by omega,VF<|by omega,VG h]
def AN{s:aX}(h:s.aC=117):d_ K s=cS K s:=by unfold d_;rw[VF<|by omega,VF<|by omega,VF<|by omega,VG h]
def AM{s:aX}(h:s.aC=115):d_ K s=fi K s:=by unfold d_;rw[VF<|by omega,VF<|by omega,VF<|by omega,VF<|by omega]
def yS(D:aI)(s:aX):(dk D s).2.rows=[]/\(dk D s).2.count=0:=by
 unfold dk;split
 .exact⟨rfl,rfl⟩
 split<;>exact⟨rfl,rfl⟩
def FW(D:aI)(s:aX):(dI D s).2.rows=[]:=by
 unfold dI;cases bO D s.table with
 |none=>rfl
 |some i=>
  simp only;split
  .rfl
  cases eI (s.c.map (·.aW)) ((ak D i).a.map (·.2))with
  |some e=>rfl
  |none=>
   simp only;cases bH [] [] (s.c.map (·.aW))with
   |error e=>rfl
   |ok row=>
    simp only;split<;>rfl
def FH(D:aI)(s:aX):(dm D s).2.rows=[]:=by
 unfold dm;cases bO D s.table with
 |none=>rfl
 |some i=>
  simp only;cases aT (ax (ak D i).name<|ak D i) (aK s.d) 3 with
  |some e=>rfl
  |none=>
   simp only;cases j9 (ax (ak D i).name<|ak D i) (aK s.d) (ak D i).rows<;>rfl
def Hq(D:aI)(s:aX):(cS D s).2.rows=[]:=by
 unfold cS;cases bO D s.table with
 |none=>rfl
 |some i=>
  simp only;cases b_ (ak D i) [] s.c with
  |error e=>rfl
  |ok ks=>
   simp only;cases aT (ax (ak D i).name<|ak D i) (aK s.d) 3 with
   |some e=>rfl
   |none=>
    simp only;cases cV (ax (ak D i).name<|ak D i) (aK s.d) ks (s.c.map (·.aW)) (ak D i).rows<;>rfl
def Tt(W:Za)(v:Zb):(Instr.typeAssert (.iface 131 v) 79 131 true).run prog W=.ok (.tuple #[v,.bool true]) W:=by kernel_rfl
def Tx(W:Za)(v:Zb):(Instr.typeAssert (.iface 133 v) 79 131 true).run prog W=.ok (.tuple #[.pointer none,.bool false]) W:=by kernel_rfl
def Ty(W:Za)(v:Zb):(Instr.typeAssert (.iface 133 v) 79 133 true).run prog W=.ok (.tuple #[v,.bool true]) W:=by kernel_rfl
def Tu(W:Za)(v:Zb):(Instr.typeAssert (.iface 135 v) 79 131 true).run prog W=.ok (.tuple #[.pointer none,.bool false]) W:=by kernel_rfl
def Tw(W:Za)(v:Zb):(Instr.typeAssert (.iface 135 v) 79 133 true).run prog W=.ok (.tuple #[.pointer none,.bool false]) W:=by kernel_rfl
def Tv(W:Za)(v:Zb):(Instr.typeAssert (.iface 135 v) 79 135 true).run prog W=.ok (.tuple #[v,.bool true]) W:=by kernel_rfl
def TE(W:Za)(v:Zb):(Instr.typeAssert (.iface 137 v) 79 131 true).run prog W=.ok (.tuple #[.pointer none,.bool false]) W:=by kernel_rfl
def TG(W:Za)(v:Zb):(Instr.typeAssert (.iface 137 v) 79 133 true).run prog W=.ok (.tuple #[.pointer none,.bool false]) W:=by kernel_rfl
def TF(W:Za)(v:Zb):(Instr.typeAssert (.iface 137 v) 79 135 true).run prog W=.ok (.tuple #[.pointer none,.bool false]) W:=by kernel_rfl
def TH(W:Za)(v:Zb):(Instr.typeAssert (.iface 137 v) 79 137 true).run prog W=.ok (.tuple #[v,.bool true]) W:=by kernel_rfl
def Tz(W:Za)(v:Zb):(Instr.typeAssert (.iface 139 v) 79 131 true).run prog W=.ok (.tuple #[.pointer none,.bool false]) W:=by kernel_rfl
def TB(W:Za)(v:Zb):(Instr.typeAssert (.iface 139 v) 79 133 true).run prog W=.ok (.tuple #[.pointer none,.bool false]) W:=by kernel_rfl
def TA(W:Za)(v:Zb):(Instr.typeAssert (.iface 139 v) 79 135 true).run prog W=.ok (.tuple #[.pointer none,.bool false]) W:=by kernel_rfl
def TD(W:Za)(v:Zb):(Instr.typeAssert (.iface 139 v) 79 137 true).run prog W=.ok (.tuple #[.pointer none,.bool false]) W:=by kernel_rfl
def TC(W:Za)(v:Zb):(Instr.typeAssert (.iface 139 v) 79 139 true).run prog W=.ok (.tuple #[v,.bool true]) W:=by kernel_rfl
abbrev jF:Obj:=.cells #[qN,qI 0] 36
def DV{o:aI×iW}(h:pY w G k g K)(q:n<=w.heap.size)(t:o.2.rows=[])(l:Za)(r:∃j a,fW (w.heap.size+1) (w.alloc jF) G k o.1 l j a):
 l.heap[w.heap.size]?=some jF/\∀c,nu w.heap.size l c->ld n w G k o (.returned<|.tuple #[.agg #[qN,qI o.2.count],qI (o.2.err:Nat)]) c:=by
 obtain⟨j,a,b⟩:=r;have e:¬G w.heap.size:=λd=>by have:=h.lt _ d;omega
 have i:¬j w.heap.size:=λd=>by
  obtain p|p:=b.new _ d
  .exact e p
  omega
 refine⟨(b.aL.block _ ⟨by simp,e⟩).trans<|aM _ _,λc hs=>⟨_,j,a,rfl,(b.boxed hs λd=>absurd d i).low<|by omega,?_⟩⟩;rw[t];exact rP.nil _ _ _ _
def PA{lo:Nat}{o:aI×iW}(h:pY w G n g K)(k:o.2.rows=[]/\o.2.count=0)(j:Za)(q:∃e a,fW lo (w.alloc jF) G n o.1 j e a):
 j.heap[w.heap.size]?=some jF/\∀b,nu w.heap.size j b->b.heap[w.heap.size]?=some jF->ld lo w G n o (.returned<|.tuple #[.agg #[qN,qI 0],qI (o.2.err:Nat)]) b:=by
 obtain⟨e,a,d⟩:=q;have i:¬G w.heap.size:=λp=>by have:=h.lt _ p;omega
 have l:=(d.aL.block _ ⟨by simp,i⟩).trans<|aM w jF;refine⟨l,λb hs c=>⟨_,e,a,by rw[k.2],d.boxed hs λ_=>by rw[c,l],?_⟩⟩;rw[k.1];exact rP.nil _ _ _ _
def yx{s:aX}(b:eL s)(a:s.aC=115)(h:ch K s=.error n):fi K s=(K,di n):=by rw[p9 b a,h]
def vH{s:aX}(b:eL s)(a:s.aC=115)(h:ch K s=.ok N):fi K s=(K,⟨N,0,0⟩):=by rw[p9 b a,h]
def rP.aL{w':Za}(h:rP n w G H N u)(g:∀k,n<=k->k<w.heap.size->w'.heap[k]?=w.heap[k]?)(e:i<=n):rP i w' G H N u:=by obtain⟨qs,j,c,b,l⟩:=h;refine⟨qs,j,bU (cN c λk a=>g k (c.lt k a).1 (c.lt k a).2) e,⟨λq d=>bU (cN (b.1 q d) λk a=>g k ((b.1 q d).lt k a).1 ((b.1 q d).lt k a).2) e,b.2⟩,l⟩
def GP{lo:Nat}{rows:List YW}{rv:Zb}(h:pY w G n g K)(a:Zd (w.heap.size+1) (w.alloc jF) W)(e:rP (w.heap.size+1) W G G rows rv):
 W.heap[w.heap.size]?=some jF/\∀b,nu w.heap.size W b->ld lo w G n (K,⟨rows,0,0⟩) (.returned<|.tuple #[.agg #[rv,qI 0],qI 0]) b:=by
 have d:¬G w.heap.size:=λc=>by have:=h.lt _ c;omega
 have i:=a.size;simp at i;refine⟨(a.block _<|by omega).trans<|aM w jF,λb hs=>⟨rv,G,g,rfl,⟨h.aL (by rw[hs.size];omega) λk hk=>?_,λk hk=>hk,λk hk=>.inl hk,hs.os.trans a.os,hs.tape.trans a.tape,hs.output.trans a.output,by rw[hs.size];omega,λk hk=>?_⟩,?_⟩⟩
 .have:=h.lt k hk;rw[hs.block k<|by omega,a.block k<|by omega,V2 _ _ _ this]
 .have:=hk.1;rw[hs.block k<|by omega,a.block k<|by omega,V2 _ _ _ this]
 .exact e.aL (λk hk _=>hs.block k<|by omega)<|by omega
def Kx{lo:Nat}{er:Nat}(h:pY w G n g K)(i:Zd (w.heap.size+1) (w.alloc jF) W):
 W.heap[w.heap.size]?=some jF/\∀a,nu w.heap.size W a->ld lo w G n (K,di er) (.returned<|.tuple #[.agg #[qN,qI 0],qI (er:Nat)]) a:=by
 have c:=GP (lo:=lo) (rows:=[]) (rv:=qN) h i<|rP.nil _ _ _ _;refine⟨c.1,λa hs=>?_⟩;obtain⟨rv,d,b,j,e,k⟩:=c.2 a hs;exact⟨_,d,b,rfl,e,rP.nil _ _ _ _⟩
def Le(X:dD){b:Nat}{s:aX}(h:xX w G i g K)(B:Ae w j b s n)(E:eL s)(q:s.aC=105)(d:k<=w.heap.size):
 Zc prog 36 #[qP i,.iface 133<|qP n] w (ld k w G i<|dI K s):=by
 obtain⟨O,N,r,e,l⟩:=Ik B q;have a:qB w<|w.alloc jF:=qA;have z:=Z<|PX X (w.heap.size+1) s E q e (h.below a) (by simp) (bB a (lB r) r)<|l.below a;have x:=Z<|DV (o:=dI K s) h.a d<|FW K s;generalize dI K s=out at*;have L:=Tx (w.alloc jF)<|qP n;have M:=Ty (w.alloc jF)<|qP n;generalize ld k w G i out=p at*;go_in;go_wp2_with fail;apply qR z;intro H D;obtain⟨c,C⟩:=x.o H D;have P:=bC c;have I:=bF c 0;have J:=bF c 1;have F:=lB c;have y:=Z C;have A:=Z c;go_wp2_with refine VI (v:=.tuple #[.agg #[qN,qI out.2.count],qI (out.2.err:Nat)]) ?_ rfl (y _<|(((nu.refl _ _).set 1<|qI out.2.count).set 0 qN).set 1<|qI out.2.count);have j:=(bS (bS (bS A 1<|qI out.2.count) 0 qN) 1<|qI out.2.count);have t:=bC j 0;have u:=bC j 1;simp at t u;simp[Zh,results36,go_sem,t,u]
def Ld(X:dD){d b:Nat}{s:aX}(h:xX w G j g K)(A:Ae w d b s n)(D:eL s)(e:s.aC=100)(l:i<=w.heap.size):
 Zc prog 36 #[qP j,.iface 135<|qP n] w (ld i w G j<|dm K s):=by
 obtain⟨v,q,E⟩:=Ij A e;have a:qB w<|w.alloc jF:=qA;have y:=Z<|PH X (w.heap.size+1) s (h.below a) (bB a (lB q) q) ((E.aL λk e=>a.block k e).more a.size) D (by simp);have u:=Z<|DV (o:=dm K s) h.a l<|FH K s;generalize dm K s=out at*;have L:=Tu (w.alloc jF)<|qP n;have M:=Tw (w.alloc jF)<|qP n;have N:=Tv (w.alloc jF)<|qP n;generalize ld i w G j out=p at*;go_in;go_wp2_with fail;apply qR y;intro H C;obtain⟨c,B⟩:=u.o H C;have O:=bC c;have I:=bF c 0;have J:=bF c 1;have F:=lB c;have x:=Z B;have z:=Z c;go_wp2_with refine VI (v:=.tuple #[.agg #[qN,qI out.2.count],qI (out.2.err:Nat)]) ?_ rfl (x _<|(((nu.refl _ _).set 1<|qI out.2.count).set 0 qN).set 1<|qI out.2.count);have d:=(bS (bS (bS z 1<|qI out.2.count) 0 qN) 1<|qI out.2.count);have r:=bC d 0;have t:=bC d 1;simp at r t;simp[Zh,results36,go_sem,r,t]
def Lg(U:E6){e b:Nat}{s:aX}(h:xX w G j g K)(C:Ae w e b s n)(F:eL s)(d:s.aC=117)(l:i<=w.heap.size):
 Zc prog 36 #[qP j,.iface 137<|qP n] w (ld i w G j<|cS K s):=by
 obtain⟨u,v,L,r,p,H,I⟩:=Im C d;have a:qB w<|w.alloc jF:=qA;have A:=Z<|U (w.heap.size+1) (w.alloc jF) G j n g K s L u v (h.below a) (bB a (lB r) r) p (H.below a) ((I.aL λk d=>a.block k d).more a.size) F d (by simp);have y:=Z<|DV (o:=cS K s) h.a l<|Hq K s;generalize cS K s=out at*;have P:=TE (w.alloc jF)<|qP n;have Q:=TG (w.alloc jF)<|qP n;have R:=TF (w.alloc jF)<|qP n;have S:=TH (w.alloc jF)<|qP n;generalize ld i w G j out=q at*;go_in;go_wp2_with fail;apply qR A;intro M E;obtain⟨c,D⟩:=y.o M E;have T:=bC c;have N:=bF c 0;have O:=bF c 1;have J:=lB c;have z:=Z D;have B:=Z c;go_wp2_with refine VI (v:=.tuple #[.agg #[qN,qI out.2.count],qI (out.2.err:Nat)]) ?_ rfl (z _<|(((nu.refl _ _).set 1<|qI out.2.count).set 0 qN).set 1<|qI out.2.count);have e:=(bS (bS (bS B 1<|qI out.2.count) 0 qN) 1<|qI out.2.count);have t:=bC e 0;have x:=bC e 1;simp at t x;simp[Zh,results36,go_sem,t,x]
def Lc{c a:Nat}{s:aX}(h:xX w G j g K)(A:Ae w c a s n)(D:eL s)(l:s.aC=99)(B:i<=a)(p:a<=w.heap.size):
 Zc prog 36 #[qP j,.iface 131<|qP n] w (ld i w G j<|dk K s):=by
 obtain⟨cv,r,e⟩:=Ii A l;have b:qB w<|w.alloc jF:=qA;have z:=Z<|PC i D l a (h.below b).a (by simp;omega) (bB b (lB r) r) (aB b e) (λk l=>by have:=(e.lt k l).1;omega);have x:=Z<|PA (lo:=i) (o:=dk K s) h.a<|yS K s;generalize dk K s=out at*;have J:=Tt (w.alloc jF)<|qP n;generalize ld i w G j out=q at*;go_in;go_wp2_with fail;apply qR z;intro F C;obtain⟨(d:Ze _),(y:Ze _)⟩:=x.o F C;have L:=bC d;have H:=bF d 0;have I:=bF d 1;have E:=lB d;go_wp2;have c:=bS (bS d 0 qN) 1<|qI 0;simp at c;refine VI (v:=.tuple #[.agg #[qN,qI 0],qI (out.2.err:Nat)]) ?_ rfl<|y _ (((nu.refl _ _).set 0 qN).set 1<|qI 0) c;have t:=bC c 0;have u:=bC c 1;simp at t u;simp[Zh,results36,go_sem,t,u]
def Lf(X:dD)(F:tp k i)(H:k<=1048576){b p y:Nat}{s:aX}(h:xX w G b g K)(Y:Ae w p y s n)(N:eL s)(J:s.aC=115)(hv:s.all=false->s.c≠[])
 (V:∀is rows,bP K [] [[]] is s.b=.ok rows->rows.length<=k)(W:s.a=true->vS)(L:s.e.length<=i)(A:s.a=true->kO w):
 Zc prog 36 #[qP b,.iface 139<|qP n] w (ld j w G b<|fi K s):=by
 obtain⟨ss,vs,ks,u,x,v,o,B⟩:=Il Y N J hv h.rules h.d.2;have d:qB w<|w.alloc jF:=qA;have T:=Z<|Pw X F H (h.below d).a (B.below d) V W L λe=>(A e).aL<|d.block _ (A e).lt;have r:=Z h.a;have E:Ze (∀c,ch K s=.error c->fi K s=(K,di c)):=λc=>yx N J;have t:Ze (∀rows,ch K s=.ok rows->fi K s=(K,⟨rows,0,0⟩)):=λrows=>vH N J;have a1:=Tz (w.alloc jF)<|qP n;have a2:=TB (w.alloc jF)<|qP n;have a3:=TA (w.alloc jF)<|qP n;have a4:=TD (w.alloc jF)<|qP n;have a5:=TC (w.alloc jF)<|qP n;go_in;go_wp2_with refine T.mono ?_;rintro e w1⟨l,P⟩;simp only[qB,WV]at l P;obtain⟨c,I,rfl⟩|⟨qs,rv,M,rfl,a,z⟩:=P
 .obtain⟨q,C⟩:=Kx (lo:=j) (er:=c) r l;rw[<-E c I]at C;have U:=bC q 0;have x1:=bC q 1;have ab:=bF q 0;have ad:=bF q 1;simp at U x1;have S:=lB q;have Q:=Z C;have R:=Z q;go_wp2_with refine VI (v:=.tuple #[.agg #[qN,qI 0],qI (c:Nat)]) ?_ rfl (Q _<|(((nu.refl _ _).set 0 qN).set 0 qN).set 1<|qI 0);have p:=(bS (bS (bS R 0 qN) 0 qN) 1<|qI 0);have D:=bC p 0;have O:=bC p 1;simp at D O;simp[Zh,results36,go_sem,D,O]
 .obtain⟨q,O⟩:=GP (lo:=j) (rows:=qs.map (·.1)) (rv:=rv) r l ⟨qs,rfl,a,z,.inr rfl⟩;rw[<-t _ M]at O;obtain⟨C,D,rfl⟩:=bN a;have x0:=bC q;have ac:=bF q 0;have ae:=bF q 1;have aa:=lB q;have S:=Z O;have U:=Z q;go_wp2_with refine VI (v:=.tuple #[.agg #[.slice C qs.length D,qI 0],qI 0]) ?_ rfl (S _<|(((nu.refl _ _).set 0<|.slice C qs.length D).set 0<|.slice C qs.length D).set 1<|qI 0);have p:=(bS (bS (bS U 0<|.slice C qs.length D) 0<|.slice C qs.length D) 1<|qI 0);have Q:=bC p 0;have R:=bC p 1;simp at Q R;simp[Zh,results36,go_sem,Q,R]
def Tl(D:aI)(s:aX):Prop:=(s.aC=117->E6)/\(s.aC=115->∃N L,tp N L/\N<=1048576/\(∀is rows,bP D [] [[]] is s.b=.ok rows->rows.length<=N)/\(s.a=true->vS)/\s.e.length<=L)
def VA(X:dD){a:Nat}{s:aX}(h:xX w G i g K)(d:Ae w j a s n)(c:eL s)(x:s.aC=115->s.all=false->s.c≠[])(e:Tl K s)(l:k<=a)(b:a<=w.heap.size)(o:kO w):
 Zc prog 36 #[qP i,.iface (OY s.aC)<|qP n] w (ld k w G i<|d_ K s):=by
 obtain hk|hk|hk|hk|hk:=c.aC
 .rw[PJ hk,hk];exact Lc h d c hk l b
 .rw[Nb hk,hk];exact Le X h d c hk<|by omega
 .rw[AL hk,hk];exact Ld X h d c hk<|by omega
 .rw[AN hk,hk];exact Lg (e.1 hk) h d c hk<|by omega
 .obtain⟨N,L,p,q,r,t,u⟩:=e.2 hk;rw[AM hk,hk];exact Lf X p q h d c hk (x hk) r t u λ_=>o
def Nc(D:aI)(s:aX):(d_ D s).2.err≠0->(d_ D s).2.rows=[]/\(d_ D s).2.count=0:=by
 unfold d_ dk dI dm cS fi;repeat' split
 all_goals first
  |exact λ_=>⟨rfl,rfl⟩
  |exact λh=>absurd rfl h
structure Live(w:Za)(M:Y7)(b:Nat)(lay:Y5)(D:aI):Prop where
 ex:xX w M b lay D
 spell:iC w
 err:lJ w
 gs:¬M 1
 ge:¬M 8
 pow:kO w
 a:¬M 5
def iC.same(h:iC w)(b:W.heap[1]?=w.heap[1]?):iC W:=λk a=>by rw[VK b];exact h k a
def lJ.same(h:lJ w)(b:W.heap[8]?=w.heap[8]?):lJ W:=by obtain⟨d,c,a⟩:=h;exact⟨d,c,by rw[VK b];exact a⟩
def lJ.lt(h:lJ w): 8<w.heap.size:=by obtain⟨c,b,a⟩:=h;exact lt_of_cell a
def Live.below(h:Live w G n g K)(a:qB w W):Live W G n g K:=
 ⟨h.ex.below a,h.spell.below a,h.err.below a,h.gs,h.ge,h.pow.aL<|a.block _ h.pow.lt,h.a⟩
def Live.step{a:Y5}{e:aI}(h:Live w G n g K)(b:fW w.heap.size w G n e W H a):Live W H n a e:=by
 have c:∀k,k<w.heap.size->¬G k->¬H k:=λk hk j d=>by
  obtain i|i:=b.new k d
  .exact j i
  omega
 exact⟨⟨b.a,h.ex.rules.aL<|b.aL.block _ ⟨h.ex.d.2,h.ex.d.1⟩,c _ h.ex.d.2 h.ex.d.1,VT h.ex.d.2 b.aL.size⟩,h.spell.same<|b.aL.block _ ⟨h.spell.lt,h.gs⟩,h.err.same<|b.aL.block _ ⟨h.err.lt,h.ge⟩,c _ h.spell.lt h.gs,c _ h.err.lt h.ge,h.pow.aL<|b.aL.block _ ⟨h.pow.lt,h.a⟩,c _ h.pow.lt h.a⟩
def xZ(w:Za)(M:Y7)(b:Nat)(o:aI×iW)(e:Zg)(w':Za):Prop:=ld w.heap.size w M b o e w'
def Ms(D:aI)(l:YX):Prop:=∀s,bp l=some s->Tl D s
def yh{s:aX}(h:bp X=some s):fx K X=d_ K s:=by unfold fx;rw[h]
def yg(h:bp X=none):fx K X=(K,di 1):=by unfold fx;rw[h]
def PL(h:pY w G n g K)(b:Zd (w.heap.size+1) (w.alloc jF) W):W.heap[w.heap.size]?=some jF/\∀a,nu w.heap.size W a->xZ w G n (K,di 1) (.returned<|.tuple #[.agg #[qN,qI 0],qI 1]) a:=
 Kx (lo:=w.heap.size) (er:=1) h b
def PK{r:Za}{u:Obj}{b:Y5}{o:aI×iW}(h:pY w G n g K)(i:Zd (w.heap.size+1) (w.alloc jF) W)(a:fW (w.heap.size+1) W G n o.1 x H b)(d:nu w.heap.size x r):fW w.heap.size w G n o.1 (r.alloc u) H b:=by
 have q:=i.size;have z:=a.aL.size;simp at q;have p:¬G w.heap.size:=λc=>by have:=h.lt _ c;omega
 have l:¬H w.heap.size:=λc=>by
  obtain t|t:=a.new _ c
  .exact p t
  omega
 have A:=d.size;have hk:∀k,k≠w.heap.size->k<x.heap.size->(r.alloc u).heap[k]?=x.heap[k]?:=λk hk y=>by rw[V2 _ _ _<|by omega,d.block k hk]
 refine⟨a.a.aL (by simp;omega) λk c=>hk k (λe=>l<|e▸c)<|a.a.lt k c,a.sub,λk hk=>(a.new k hk).imp id λh=>by omega,d.os.trans<|a.aL.os.trans i.os,d.tape.trans<|a.aL.tape.trans i.tape,d.output.trans<|a.aL.output.trans i.output,by simp;omega,λk j=>?_⟩;have:=j.1;rw[hk k (by omega)<|by omega,a.aL.block k ⟨by omega,j.2⟩,i.block k<|by omega,V2 _ _ _ this]
def RU{a:Y5}{e:aI}(h:pY w G n g K)(d:Zd (w.heap.size+1) (w.alloc jF) W)(j:fW k W G n e x H a):x.heap[w.heap.size]?=some jF:=by
 have c:=d.size;simp at c;have b:¬G w.heap.size:=λi=>by have:=h.lt _ i;omega
 rw[j.aL.block _ ⟨by omega,b⟩,d.block _<|by omega,aM]
def rP.slice(h:rP n w G H N u):∃a c,u=.slice a N.length c:=by obtain⟨qs,b,d,_⟩:=h;obtain⟨a,c,h⟩:=bN d;exact⟨a,c,by rw[h,b,VL]⟩
def Ng(L:lL)(X:dD)(h:Live w G i g K)(ht:Y.length<=1048576)(O:Ms K Y):
 Zc prog 18 #[qP i,qT Y] w (xZ w G i<|fx K Y):=by
 have D:qB w<|w.alloc jF:=qA;have W:=Z<|Ur L ⟨Y.toArray⟩ (by simpa[ByteArray.size]using ht) (h.below D).spell (h.below D).err;have C:=Z h;have J:=Z O;go_in;go_wp2_with refine W.mono ?_;rintro e w1⟨b,u⟩;simp only[qB,WV]at b u;cases hpp:bp Y with
 |none=>
  rw[hpp]at u;simp only at u;subst u;obtain⟨a,c⟩:=PL C.ex.a b;rw[<-yg hpp]at c;have o:=bC a 0;have p:=bC a 1;have q:=bF a 0;have r:=bF a 1;simp at o p;have n:=lB a;have k:=Z c;have l:=Z a;go_wp2_with refine VI (v:=.tuple #[.agg #[qN,qI 0],qI 1]) ?_ rfl (k _<|((nu.refl _ _).set 0 qN).set 1<|qI 0);have rb:=(bS (bS l 0 qN) 1<|qI 0);have d:=bC rb 0;have j:=bC rb 1;simp at d j;simp[Zh,results18,go_sem,d,j]
 |some s=>
  rw[hpp]at u;simp only at u;obtain⟨rb,n,rfl,aa,Q⟩:=u;have F:=b.size;simp only[WV]at F;have q:qB w w1:=(qW.alloc qZ jF).trans<|b.mono (by omega);have B:=Z<|VA X (C.below q).ex Q (ix hpp) (Cv hpp) (J s hpp) qZ F (C.below q).pow;have o:=Z<|Nc K s;have HEq:Ze<|fx K Y=d_ K s:=yh hpp;generalize S:d_ K s=out at*;have A:=Z b;go_wp2_with refine B.mono ?_;rintro e I⟨rv,H,c,rfl,l,t⟩;have z:=RU C.ex.a A l;have x0:=bC z;have ad:=bF z 0;have ae:=bF z 1;have ab:=lB z;have R:=Z z;obtain⟨x,y,P⟩:=t.slice;subst P;have ac:=l.aL.size;have p:Ze (∀d a,nu w.heap.size I a->rP w.heap.size (a.alloc d) G H out.2.rows (.slice x out.2.rows.length y)):=λd a j=>t.aL (λk hk N=>by rw[V2 _ _ _<|j.size▸N,j.block k<|by omega]) (by omega);have r:Ze (∀d a,nu w.heap.size I a->fW w.heap.size w G i out.1 (a.alloc d) H c):=λd a j=>PK C.ex.a A l j;by_cases M:out.2.err=0
  .have V:Ze (∀d a,nu w.heap.size I a->xZ w G i (fx K Y) (.returned<|.tuple #[.agg #[.slice x out.2.rows.length y,qI out.2.count],qI 0]) (a.alloc d)):=λd a j=>by rw[HEq];exact⟨_,H,c,by rw[M];rfl,r _ _ j,p _ _ j⟩
   rw[M];generalize xZ w G i (fx K Y)=E at*;go_wp2_with refine VI (v:=.tuple #[.agg #[.slice x out.2.rows.length y,qI out.2.count],qI 0]) ?_ rfl (V _ _<|((nu.refl _ _).set 0<|.slice x out.2.rows.length y).set 1<|qI out.2.count);have rb:=bA (bS (bS R 0<|.slice x out.2.rows.length y) 1<|qI out.2.count)<|.cells #[.slice x out.2.rows.length y,qI out.2.count] 36;have T:=bC rb 0;have U:=bC rb 1;simp at T U;simp[Zh,results18,go_sem,T,U]
  obtain⟨T,E⟩:=o.o M;have V:((out.2.err:Int) != 0)=true:=by simp;omega
  have U:Ze (∀d a,nu w.heap.size I a->xZ w G i (fx K Y) (.returned<|.tuple #[.agg #[qN,qI 0],qI (out.2.err:Nat)]) (a.alloc d)):=λd a j=>by rw[HEq];exact⟨_,H,c,by rw[E],r _ _ j,by rw[T];exact rP.nil _ _ _ _⟩
  clear p r l t B o z T E;generalize xZ w G i (fx K Y)=l at*;go_wp2_with refine VI (v:=.tuple #[.agg #[qN,qI 0],qI (out.2.err:Nat)]) ?_ rfl (U _ _<|((nu.refl _ _).set 0 qN).set 1<|qI 0);have rb:=bA (bS (bS R 0 qN) 1<|qI 0)<|.cells #[.slice x out.2.rows.length y,qI out.2.count] 36;have o:=bC rb 0;have p:=bC rb 1;simp at o p;simp[Zh,results18,go_sem,o,p]
structure pE(w:Za)(M:Y7)(w':Za)(M':Y7):Prop where
 aL:KP (λk=>k<w.heap.size/\¬M k) w w'
 new:∀k,M' k->M k\/w.heap.size<=k
def pE.refl(w:Za)(M:Y7):pE w M w M:=⟨KP.refl _ _,λk hk=>.inl hk⟩
def pE.below(M:Y7)(a:qB w W):pE w M W M:=⟨⟨a.os,a.tape,a.output,a.size,λk hk=>a.block k hk.1⟩,λk hk=>.inl hk⟩
def pE.not(h:pE w G W H)(d:k<w.heap.size)(c:¬G k):¬H k:=λa=>by
 obtain b|b:=h.new k a
 .exact c b
 omega
def pE.trans{C:Y7}(h:pE w G W H)(k:pE W H x C):pE w G x C:=by
 have b:=h.aL.size;refine⟨⟨k.aL.os.trans h.aL.os,k.aL.tape.trans h.aL.tape,k.aL.output.trans h.aL.output,Wf b k.aL.size,λi hi=>(k.aL.block i ⟨by omega,h.not hi.1 hi.2⟩).trans<|h.aL.block i hi⟩,λi hi=>?_⟩;obtain a|a:=k.new i hi
 .exact h.new i a
 exact .inr<|by omega
structure rh(w:Za):Prop where
 spell:iC w
 err:lJ w
 rules:i4 w
 a: 9<w.heap.size
 pow:kO w
def Gt:ec []:=⟨by simp,by simp⟩
abbrev Io:Obj:=.cells #[qN] 77
def N8(b:Nat):Nat->Prop:=λk=>k=b
def Live.new(h:rh w):Live (w.alloc Io) (N8 w.heap.size) w.heap.size [] []:=by
 have a:qB w<|w.alloc Io:=qA;refine⟨⟨⟨λk hk=>?_,rfl,⟨qN,aM _ _,nG,λk hk=>(by cases hk)⟩,rfl,λi l t b=>(by simp at b),λi j l m _ b=>(by simp at b),Gt⟩,h.rules.aL<|a.block _ h.a,λe=>?_,?_⟩,h.spell.below a,h.err.below a,λe=>?_,λe=>?_,h.pow.aL<|a.block _ h.pow.lt,λe=>?_⟩
 .cases hk;simp
 .have c: 9=w.heap.size:=e;have:=h.a;omega
 .have:=h.a;simp;omega
 .have c: 1=w.heap.size:=e;have:=h.spell.lt;omega
 .have c: 8=w.heap.size:=e;have:=h.err.lt;omega
 have c: 5=w.heap.size:=e;have:=h.pow.lt;omega
def Vf(w:Za):Zc prog 14 #[] w λe a=>e=.returned (qP w.heap.size)/\a=w.alloc Io:=by go_in;go_wp2;go_ret;exact⟨rfl,rfl⟩
def fW.since(b:qB w W)(a:fW w.heap.size W G n K x H g):fW w.heap.size w G n K x H g:=
 ⟨a.a,a.sub,a.new,⟨a.aL.os.trans b.os,a.aL.tape.trans b.tape,a.aL.output.trans b.output,Wf b.size a.aL.size,λk hk=>(a.aL.block k ⟨VT hk.1 b.size,hk.2⟩).trans<|b.block k hk.1⟩⟩
def ZF(w:Za)(M:Y7)(b:Nat)(o:Option aI)(e:Zg)(w':Za):Prop:=
 e=.returned (.bool o.isSome)/\∃M',pE w M w' M'/\∀x,o=some x->∃lay',Live w' M' b lay' x
def aat(W:Za):(Instr.typeAssert .nilIface 79 131 true).run prog W=.ok (.tuple #[.pointer none,.bool false]) W:=by kernel_rfl
def aau(W:Za):(Instr.typeAssert .nilIface 79 133 true).run prog W=.ok (.tuple #[.pointer none,.bool false]) W:=by kernel_rfl
def ZU{M:Y7}{b:Nat}{o:Option aI}(c:o=none)(a:qB w W):ZF w M b o (.returned<|.bool false) W:=by subst c;exact⟨rfl,M,pE.below M a,λx h=>by cases h⟩
def aah{i:Za}{b:Y5}{a:aI×iW}(h:Live w G n g K)(j:qB w W)(k:fW w.heap.size W G n a.1 i H b):ZF w G n (if a.2.err=0 then some a.1 else none) (.returned<|.bool<|((a.2.err:Nat):Int)==0) i:=by
 have c:=k.since j;refine⟨?_,H,⟨c.aL,c.new⟩,λx e=>?_⟩
 .by_cases d:a.2.err=0
  .rw[VG d,d];rfl
  rw[VF d];have:((((a.2.err:Nat):Int))==0)=false:=by simp;exact d
  rw[this];rfl
 by_cases d:a.2.err=0
 .rw[VG d]at e;cases e;exact⟨b,h.step c⟩
 rw[VF d]at e;cases e
def aap(L:lL)(X:dD)(s:Y9)(h:Live w G i g K)(a:s.size<=1048576):
 Zc prog 46 #[qP i,.string s] w (ZF w G i<|Zp K s.data.toList):=by
 have b:=Z<|Ur L s a h.spell h.err;have p:=Z h;clear h a;go_in;go_wp2_with refine b.mono ?_;rintro e l⟨a,r⟩;clear b;cases hpp:bp s.data.toList with
 |none=>
  rw[hpp]at r;simp only at r;subst r;have c:=Z<|ZU (M:=G) (b:=i) (show Zp K s.data.toList=none by rw[Zp,hpp]) a;have d:=aat l;have h:=aau l;generalize ZF w G i (Zp K s.data.toList)=b at*;clear hpp a p;go_wp2;exact c
 |some j=>
  rw[hpp]at r;simp only at r;obtain⟨rb,n,rfl,o,d⟩:=r;have c:=ix hpp;have t:=a.size;have b:Zp K s.data.toList=if j.aC=99 then (if (dk K j).2.err=0 then some (dk K j).1 else none)else if j.aC=105 then (if (dI K j).2.err=0 then some (dI K j).1 else none)else none:=by rw[Zp,hpp]
  obtain hk|hk|hk|hk|hk:=c.aC
  .rw[hk,VG rfl]at b;rw[hk,show OY 99=131 from rfl];obtain⟨cv,B,q⟩:=Ii d hk;have y:=Z<|PC w.heap.size c hk w.heap.size (p.below a).ex.a t B q λk hk=>(q.lt k hk).1;have C:=Tt l<|qP n;have z:Ze (∀u x h,fW w.heap.size l G i (dk K j).1 u x h->ZF w G i (Zp K s.data.toList) (.returned<|.bool<|(((dk K j).2.err:Nat):Int)==0) u):=λu x h hs=>by rw[b];exact aah p a hs
   generalize ZF w G i (Zp K s.data.toList)=A at*;generalize dk K j=out at*;clear hpp a d c b B q p o;go_wp2_with refine y.mono ?_;rintro e u⟨rfl,x,h,hs⟩;have q:=Z<|z u x h hs;clear hs y z;go_wp2;exact q
  .rw[hk,VF<|by decide,VG rfl]at b;rw[hk,show OY 105=133 from rfl];obtain⟨F,E,B,k,q⟩:=Ik d hk;have y:=Z<|PX X w.heap.size j c hk k (p.below a).ex t B q;have C:=Tx l<|qP n;have D:=Ty l<|qP n;have z:Ze (∀u x h,fW w.heap.size l G i (dI K j).1 u x h->ZF w G i (Zp K s.data.toList) (.returned<|.bool<|(((dI K j).2.err:Nat):Int)==0) u):=λu x h hs=>by rw[b];exact aah p a hs
   generalize ZF w G i (Zp K s.data.toList)=A at*;generalize dI K j=out at*;clear hpp a d c b B k q p o;go_wp2_with refine y.mono ?_;rintro e u⟨rfl,x,h,hs⟩;have k:=Z<|z u x h hs;clear hs y z;go_wp2;exact k
  .rw[hk,VF<|by decide,VF<|by decide]at b;rw[hk,show OY 100=135 from rfl];have k:=Z<|ZU (M:=G) (b:=i) b a;have q:=Tu l<|qP n;have u:=Tw l<|qP n;generalize ZF w G i (Zp K s.data.toList)=h at*;clear hpp a d c b p o;go_wp2;exact k
  .rw[hk,VF<|by decide,VF<|by decide]at b;rw[hk,show OY 117=137 from rfl];have k:=Z<|ZU (M:=G) (b:=i) b a;have q:=TE l<|qP n;have u:=TG l<|qP n;generalize ZF w G i (Zp K s.data.toList)=h at*;clear hpp a d c b p o;go_wp2;exact k
  rw[hk,VF<|by decide,VF<|by decide]at b;rw[hk,show OY 115=139 from rfl];have k:=Z<|ZU (M:=G) (b:=i) b a;have q:=Tz l<|qP n;have u:=TB l<|qP n;generalize ZF w G i (Zp K s.data.toList)=h at*;clear hpp a d c b p o;go_wp2;exact k
