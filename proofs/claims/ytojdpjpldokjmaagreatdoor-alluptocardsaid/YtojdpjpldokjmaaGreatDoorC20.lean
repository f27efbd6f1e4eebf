import Derived.Test.YtojdpjpldokjmaaGreatDoorC12
set_option maxHeartbeats 0
set_option maxRecDepth 100000
set_option linter.all false
namespace Go.Proofs.YtojdpjpldokjmaaGreatDoor
open Go.Deep Go.RowKit Tryz
open Go renaming World->Za,Value->Zb,Calls->Zc,TypeId->Zf,callFunc->Zi
open RowKit renaming Below->Zd,Hid->Ze,intOf->Zk
variable{W w:World}{i j k n:Nat}{h r:List (ay×Value)}{R:aA}{F:YY}{a:Int}{A B u z:Value}{X:YX}{I J:YW}{N O:List YW}{o p:YZ}{K:aI}
def Sd:(prog.info? 275).map (λi=>(i.zero,i.size,i.bytes))=some (some<|.agg #[.int .i64 0,.slice none 0 0],2,32):=by kernel_rfl
def AU{d:Y_}:(Zi 161 d).run prog w=.ok (.enter 161 d) w:=by
 have g:(f161.name == "runtime.NumGoroutine")=false:=by kernel_rfl
 have c: f161.body.isNone=false:=by kernel_rfl
 have a:¬f161.name = "runtime.NumGoroutine":=by simpa using g
 have b:¬f161.body=none:=by intro e;rw[e]at c;cases c
 simp[Zi,go_sem,func161,a,b]
def br.P{v:Zb}(h:br w n 2 Vm r v){p:ay×Zb}(b:r[i]?=some p):∃g cap,v=.slice (some ⟨g,0,none⟩) r.length cap/\g<n /\
 w.cell? ⟨g,i*2,none⟩=some (.string ⟨p.1.name.toArray⟩)/\w.cell? ⟨g,i*2+1,none⟩=some p.2:=by
 obtain⟨a,cap,rfl,d⟩:=h;obtain⟨g,rfl,e,c⟩:=d (by rintro rfl;simp at b);exact⟨g,cap,rfl,e,c i p b 0 _ rfl,c i p b 1 _ rfl⟩
def JW(ab:YY)(t:aA)(want:Int)(K:Nat)(wx:Za)(p:Y8)(n c er:Nat):Prop:=aT ab t want=some er\/(er=0/\aT ab t want=none/\lM wx (El K wx.heap.size) ab t (.slice p n c))
def Rn(W:Za)(ab:YY)(t:aA)(want:Int)(v:Zb)(w':Za):Prop:=∃(p:Y8)(n c er:Nat),v=.tuple #[.agg #[.slice p n c],.int .i64 (er:Nat)]/\Zd W.heap.size W w'/\JW ab t want W.heap.size w' p n c er
def Ru{f:Nat}{b:Y_}(h:Zc prog f b W<|mj W R F a):Zc prog f b W λe j=>∃v,e=.returned v/\Rn W F R a v j:=by
 refine h.mono ?_;rintro e j⟨i,⟨k,d,rfl⟩|⟨cv,d,rfl,g⟩⟩
 .exact⟨_,rfl,_,_,_,k,rfl,i,.inl d⟩
 obtain⟨p,n,c,rfl⟩:=g.slice;exact⟨_,rfl,p,n,c,0,rfl,i,.inr ⟨rfl,d,g⟩⟩
structure Rm(W wx:Za)(xb:Nat)(ab:YY)(t:aA)(want:Int)(p:Y8)(n c er:Nat):Prop where
 d:Zd W.heap.size W wx
 q:wx.heap[xb]?=some (.cells #[.slice p n c] 204)
 a:JW ab t want W.heap.size wx p n c er
def M9{p:Y8}(b:Zd W.heap.size W.drew w)(g:JW F R a W.drew.heap.size w p n i j):Rm W (w.alloc<|.cells #[.slice p n i] 204) w.heap.size F R a p n i j:=
 ⟨((VM W.heap.size W).drew.trans b).alloc (by have:=b.size;exact this) _,aM _ _,g.imp id λ⟨c,d,e⟩=>⟨c,d,(iE.aL e λk hk=>V2 _ _ _ hk.2).mono λk hk=>⟨hk.1,by have:=hk.2;simp;omega⟩⟩⟩
def K_{p:Y8}(e:Zd (W.heap.size+1) (W.alloc<|.cells #[.slice none 0 0] 204).drew w)(h:w.heap[W.heap.size]?=some (.cells #[.slice none 0 0] 204))(g:JW F R a (W.heap.size+1) w p n i j):Rm W (w.setCell ⟨W.heap.size,0,none⟩<|.slice p n i) W.heap.size F R a p n i j:=
 ⟨(((VM W.heap.size W).alloc (VR _) _).drew.trans<|e.mono<|by omega).setCell (VR _) _,by simpa using bS h 0 (.slice p n i),g.imp id λ⟨b,c,d⟩=>⟨b,c,(iE.aL d λk hk=>VN _ _ _ _ (show k≠W.heap.size by have:=hk.1;omega)).mono λk hk=>⟨by have:=hk.1;omega,by rw[size_set];exact hk.2⟩⟩⟩
structure Rr(w1 wr:Za)(t:bV)(ps:List<|ay×Zb)(i:Nat)(sv:Zb)(sgs:List Sg):Prop where
 set:rI w1 wr (ax t.name t) sv sgs
 go:b_ t [] (ps.map (·.1))=b_ t (places sgs) ((ps.drop i).map (·.1))
 trees:sgs.map (λs=>s.2.1)=((ps.take i).map (·.1)).map (·.aW)
 len:sgs.length=i
def rI.c{wr:Za}{a:List Sg}(h:rI W wr F u a)(b:Zd w.heap.size w W):rI w wr F u a:=
 ⟨b.trans<|h.d.mono b.size,bU h.own b.size,h.e⟩
def rI.rows{wr:Za}{a:List Sg}(h:rI w wr F u a):br wr wr.heap.size 2 KC a u:=c7 (f:=KC) (λ_=>rfl) h.own<|VR _
def rI.l{wr:Za}{b:List Sg}(h:rI w wr F u b):∀s∈b,∃a m c,s.2.2=.slice a m c:=λs hs=>(h.e s hs).slice
def K7{t:bV}(h:dY t X=some k):k<t.a.length:=by unfold dY at h;exact(Xj.1 h).1
def x_(t:bV)(hn:n<w.heap.size)(bk:w.cell? ⟨n,0,none⟩=some (.string ⟨t.name.toArray⟩))(K:w.cell? ⟨n,1,none⟩=some A)(X:br w w.heap.size 2 OT t.a A)(hl:t.a.length<=1000)(hr:i4 w)(hg: 9<w.heap.size)(hs:CW w w.heap.size h z)(a9:∀p∈h,cY p.1.aW)(bo:h.length<=1000):
 Zc prog 108 #[.pointer<|some ⟨n,0,none⟩,z] w (vW w t<|h.map (·.1)):=by
 obtain⟨ua,uc,rfl⟩:=hs.1.slice;obtain⟨ca,cc,rfl⟩:=X.slice;obtain⟨i0,hi,a5,a6,a7⟩:=V5 Sd;have aS:=Z<|Jr t.name hn K X hl;have ao:=Z X;have S:=Z hs;have HR:=Z hr;have ap:=Z hg;have aO:=Z a9;have R:Ze (∀(er:Nat) w',b_ t [] (h.map (·.1))=.error er->(er=2\/er=3)->Zd w.heap.size w w'->vW w t (h.map (·.1)) (.returned<|.tuple #[.slice none 0 0,.int .i64 (er:Nat)]) w'):=λer w' h1 h2 h3=>⟨h3,.inl ⟨er,h1,h2,rfl⟩⟩;have aw:Ze (∀b v w',b_ t [] (h.map (·.1))=.ok (places b)->b.map (λs=>s.2.1)=(h.map (·.1)).map (·.aW)->rI w w' (ax t.name t) v b->vW w t (h.map (·.1)) (.returned<|.tuple #[v,.int .i64 0]) w'):=λb v w' h1 h2 h3=>⟨h3.d,.inr ⟨b,v,h1,h2,rfl,h3⟩⟩;generalize vW w t (h.map (·.1))=be at*;go_in;go_wp2_with fail;refine aS.mono ?_;rintro e l⟨az,TT,rfl,F⟩;obtain⟨va,vn,vc,rfl⟩:=aF F;have an:Ze<|br l l.heap.size 3 lS (ax t.name t)<|.slice va vn vc:=by unfold Ze;rw[yw];exact c7 (f:=lS) (λ_=>rfl) F<|VR _
 have o:=Z az;have q:=az.size;have aL:Ze<|Rr l l t h 0 (.slice none 0 0) []:=⟨⟨VM _ _,VP _ _ _ _,λs hs=>by simp at hs⟩,rfl,rfl,rfl⟩;go_wp2
 go_loopw [7,21] (λs7 bd wr=>∃(i:Nat) (b:List Sg),i<=h.length/\bd=.int .i64 (i:Nat)/\Ze (Rr l wr t h i s7 b)) (λ_ a _=>h.length-(Zk a).toNat)
 exact⟨0,[],Wi _,rfl,aL⟩
 case round=>
  obtain⟨i,b,bl,rfl,d⟩:=hrel;have aZ:=d.set.d;obtain⟨sa,sn,sc,rfl⟩:=aF d.set.own;have B:Zd w.heap.size w wr:=o.trans<|aZ.mono q;by_cases aa:i<h.length
  .have aE:h[i]?=some h[i]:=VE aa;have P:=VQ aa;have J:Ze<|(h.drop i).map (·.1)=h[i].1::(h.drop<|i+1).map (·.1):=by rw[Ze,VJ aa];rfl
   have aU:Ze<|((h.take<|i+1).map (·.1)).map (·.aW)=((h.take i).map (·.1)).map (·.aW)++[h[i].1.aW]:=by rw[Ze,V9,aE];simp only[XV,Wc,We,Yw]
   generalize h[i]=p at*;obtain⟨y,pv⟩:=p;obtain⟨pa,rfl⟩:=(S.2 _ P).ptr;obtain⟨g,cap,he,a4,e0,e1⟩:=(S.1.aL λk hk=>B.block k hk).P aE;cases he;simp only at e0 e1;have bh:g<wr.heap.size:=VT a4 B.size;have bn:n<wr.heap.size:=VT hn B.size;have d0:=(VK<|B.block n hn).trans K;generalize T:wr.alloc (.cells #[.string ⟨y.name.toArray⟩,.pointer pa] 259)=Wb at*;have aB:Zd wr.heap.size wr Wb:=by rw[<-T];exact(VM _ _).alloc (VR _) _
   have a0:Wb.heap[wr.heap.size]?=some (.cells #[.string ⟨y.name.toArray⟩,.pointer pa] 259):=by rw[<-T];exact aM _ _
   have j:Zd w.heap.size w Wb:=B.trans<|aB.mono B.size;have aP:=Z<|SF t y.name (VT hn j.size) ((VK<|j.block n hn).trans K) ((ao.aL λk hk=>j.block k hk).more j.size) hl;subst T;have al:=Z a0;have ak:=Z aB;have O:=Z P;have bj:=Z j;go_wp2_with fail;refine aP.mono ?_;rintro e C⟨rfl,U⟩;have aI:=U.size;simp only[Za.alloc,X7]at aI;have ai:Ze<|Zd wr.heap.size wr C:=ak.trans<|U.mono ak.size;have L:Ze<|C.heap[wr.heap.size]?=some (.cells #[.string ⟨y.name.toArray⟩,.pointer pa] 259):=(U.block _<|lB al).trans al;cases hix:dY t y.name with
   |none=>
    have c:=Z<|R 2 (C.alloc<|.cells #[.int .i64<|-1] 3) (by rw[d.go,J];exact sX hix) (.inl rfl)<|((o.trans<|d.set.d.mono q).trans<|ai.mono<|Wf q d.set.d.size).alloc (by have:=d.set.d.size;omega) _;simp only[fI];go_wp2;exact c
   |some k=>
    simp only[fI];have aD:k<t.a.length:=K7 hix;have aA:Zd C.heap.size C<|C.alloc<|.cells #[.int .i64 (k:Nat)] 3:=(VM _ _).alloc (VR _) _;have bp:C.heap.size<(C.alloc<|.cells #[.int .i64 (k:Nat)] 3).heap.size:=by simp
    have aG:(C.alloc<|.cells #[.int .i64 (k:Nat)] 3).heap[C.heap.size]?=some (.cells #[.int .i64 (k:Nat)] 3):=aM _ _;have ae:=(d.set.below ai).below aA;have D:=Z<|GV k ae.rows ae.l (by rw[d.len];omega) aG;have aV:=Z aG;have aq:=Z ae;have M:Ze<|(C.alloc<|.cells #[.int .i64 (k:Nat)] 3).heap[wr.heap.size]?=some (.cells #[.string ⟨y.name.toArray⟩,.pointer pa] 259):=(aA.block _<|lB L).trans L;have Q:=Z hix;unfold OC at D;cases hct:(places b).contains k with
    |true=>
     rw[hct]at D;have c:=Z hct;go_wp2_with fail;refine D.mono ?_;rintro e G⟨rfl,r⟩;have x:=aq.below r;have E:=Z<|R 2 G (by rw[d.go,J];exact rD Q c) (.inl rfl)<|o.trans<|x.d.mono q;go_wp2;exact E
    |false=>
     rw[hct]at D;have am:=Z hct;go_wp2_with fail;refine D.mono ?_;rintro e I⟨rfl,V⟩;have G:=aq.below V;have r:Zd w.heap.size w I:=o.trans<|G.d.mono q;have af:I.heap[C.heap.size]?=some (.cells #[.int .i64 (k:Nat)] 3):=(V.block _<|by simp).trans aV;have ag:I.heap[wr.heap.size]?=some (.cells #[.string ⟨y.name.toArray⟩,.pointer pa] 259):=(V.block _<|lB M).trans M;have x0:=bC af 0;have y0:=bC ag 0;have y1:=bC ag 1;simp at x0 y0 y1;have xz:=lB af;have yz:=lB ag;have t1:=(VK<|r.block n hn).trans K;have tz:n<I.heap.size:=VT hn r.size;obtain⟨g2,bf,a1,a2,q0,q1⟩:=(ao.aL λk hk=>r.block k hk).d<|VE aD;cases a1;have bg:g2<I.heap.size:=VT a2 r.size;have bm:(k:Int)<(t.a.length:Nat):=by omega
     have au:Ze<|(t.a.getD k ([],0)).2=t.a[k].2:=by rw[Ze,Wm,VE aD];rfl
     generalize t.a[k].2=ty at*;have aC:∀W,Zd l.heap.size l W->nh W y.aW (.pointer pa) (ax t.name t) (.slice va vn vc):=λW hW=>by have c:=o.trans<|hW.mono q;exact⟨HR.aL<|c.block _ ap,VT ap c.size,((S.2 _ O).aL λk hk=>c.block k hk).more c.size,aO _ O,(an.aL λk hk=>hW.block k hk).more hW.size,by rw[ax,VL];exact hl⟩
     have ah:Ze (∀W,Zd l.heap.size l W->_):=λW hW=>Ru<|qe ty<|aC W hW;have aJ:Ze<|Zd l.heap.size l I.drew:=G.d.drew;have aK:Ze<|Zd l.heap.size l (I.alloc<|.cells #[.slice none 0 0] 204).drew:=(G.d.alloc G.d.size _).drew;have aX:Ze<|(I.alloc<|.cells #[.slice none 0 0] 204).drew.heap[I.heap.size]?=some (.cells #[.slice none 0 0] 204):=aM I _;have ar:=Z G;have av:=Z af;go_upto_region 9 with fail
     go_cut [11,12]from 22 to 60 (λbb bc wx=>∃(xb:Nat) (p4:Y8) (n4 c4 E:Nat),bb=.pointer (some ⟨xb,0,none⟩)/\bc=.int .i64 (E:Nat)/\Ze (Rm I wx xb (ax t.name t) y.aW ty p4 n4 c4 E))
     case first=>
      go_region_law (first
       | (refine eN rfl (.tmp 38) (.tmp 39) (.tmp 47) rfl AU (by simp[Act.eval,Act.put]) (by simp[Act.eval,Act.put]) (by simp[Act.eval,Act.put]) (ah _ aJ) ?_
          rintro v5 w5⟨p5,n5,c5,aY,rfl,c,x⟩;have Y:=Z<|And.intro c x
          clear c x)
       | (refine eN rfl (.tmp 38) (.tmp 39) (.tmp 47) rfl AU (by simp[Act.eval,Act.put]) (by simp[Act.eval,Act.put]) (by simp[Act.eval,Act.put]) (ah _ aK) ?_
          rintro v5 w5⟨p5,n5,c5,aY,rfl,c,x⟩;have H:=(c.block _<|by simp[Za.drew]).trans aX;have r0:=bC H 0;have rf:=bF H 0;simp at r0;have rz:=lB H;have aW:=Z H;have N:=Z<|And.intro c x
          clear c x H))
      all_goals go_wp2_with fail
      all_goals go_meet
      all_goals first
       |exact⟨_,_,_,_,_,rfl,rfl,M9 Y.1 Y.2⟩
       |exact⟨_,_,_,_,_,rfl,rfl,K_ (by simpa[Za.drew]using N.1) aW.o<|by simpa[Za.drew]using N.2⟩
     obtain⟨xb,p4,n4,c4,E,rfl,rfl,c⟩:=hcut;have H:=ar.below c.d;have aH:wc.heap[C.heap.size]?=some (.cells #[.int .i64 (k:Nat)] 3):=(c.d.block _<|lB av).trans av;have z0:=bC aH 0;have p0:=bC c.q 0;simp at z0 p0;have zz:=lB aH;have pz:=lB c.q;have aj:Ze<|Zd w.heap.size w wc:=o.trans<|H.d.mono q;obtain Y|⟨rfl,ba,ad⟩:=c.a
     .have N:((E:Int) != 0)=true:=by have:=fu Y;simp;omega
      have x:=Z<|R E wc (by rw[d.go,J];exact uL Q am (by rw[au];exact Y)) (fu Y) aj;go_wp2;exact x
     have aQ:=Z ad;have aT:=Z ba;have aR:=Z H;have ac:=H.own;have N:=Z d.len;have bq:l.heap.size<=wc.heap.size:=H.d.size;go_wp2_with (at_builtin;refine Wv _ rfl (.tmp 54) (.tmp 58) 214 rfl l.heap.size 275 i0 _ 2 32 underlying214 hi a5 a6 a7 rfl (by decide) _ _ _ rfl (ac.alloc _) ⟨wc.heap.size,0,none⟩ 1 1 (KC (k,y.aW,.slice p4 n4 c4)) rfl rfl ?c1 ?c2 ?c3 ?c4 ?c5 ?_)
     case c1=>exact cW wc (KC (k,y.aW,.slice p4 n4 c4)) 275
     case c2=>intro x hx;simp[KC]at hx;obtain rfl|rfl:=hx<;>rfl
     case c3=>have:=N.o;unfold maxLen;omega
     case c4=>have:=N.o;omega
     case c5=>simp;omega
     intro v' w6 ab a3 bi a8;have a_:=aR.below<|(VM wc.heap.size wc).alloc (VR _)<|.cells (KC (k,y.aW,.slice p4 n4 c4)).toArray 275;have aN:Ze<|Rr l w6 t h (i+1) v'<|b++[(k,y.aW,.slice p4 n4 c4)]:=by
      refine⟨a_.push (k:=k) (t:=y.aW) (u:=.slice p4 n4 c4) ?_ (by simpa using ab) a3<|by simpa using a8,?_,?_,?_⟩
      .refine(iE.aL aQ λk hk=>V2 _ _ _ hk.2).mono (λk hk=>⟨by have:=hk.2;simp;omega,λe=>?_⟩);have:=(ar.own.lt k e).2;have:=hk.1;omega
      .rw[d.go,J,sY Q am<|au▸aT];simp[places]
      .rw[Wc,d.trees,aU];rfl
      rw[VH,d.len];rfl
     go_wp2;go_roundw;exact⟨i+1,_,by omega,by go_num,aN⟩;simp[Zk];omega
  obtain rfl:i=h.length:=by omega
  have h1:=d.go;have h2:=d.trees;rw[Wa]at h1;rw[Wj]at h2;have c:=Z<|aw b _ wr h1 h2<|d.set.c o;go_wp2;exact c
def gD(l:List YW)(n:Nat)(o:aV<|List YW×Nat):aV<|List YW×Nat:=match o with
 |.error e=>.error e
 |.ok z=>.ok (l++z.1,n+z.2)
def rV(o:aV<|List YW×Nat):gD [] 0 o=o:=by
 cases o with
 |error e=>rfl
 |ok z=>simp[gD]
def yH{a:Y4}{b:Y6}{e:Nat}(h:bZ F I R=.error e):gD O n (cV F R a b<|I::N)=.error e:=by rw[cV,h];rfl
def Ap{a:Y4}{b:Y6}{x:ai}(h:bZ F I R=.ok x)(c:¬x=bh true):gD O n (cV F R a b<|I::N)=gD (O++[I]) n (cV F R a b N):=by
 rw[cV,h];simp only;rw[VF c];cases cV F R a b N with
 |error e=>rfl
 |ok z=>simp[gD]
def vZ{a:Y4}{b:Y6}{e:Nat}{x:ai}(h:bZ F I R=.ok x)(d:x=bh true)(c:gO F I I a b=.error e):gD O n (cV F R a b<|I::N)=.error e:=by rw[cV,h];simp only;rw[VG d,c];rfl
def yI{a:Y4}{b:Y6}{x:ai}(h:bZ F I R=.ok x)(d:x=bh true)(c:gO F I I a b=.ok J):gD O n (cV F R a b<|I::N)=gD (O++[J]) (n+1) (cV F R a b N):=by
 rw[cV,h];simp only;rw[VG d,c];simp only;cases cV F R a b N with
 |error e=>rfl
 |ok z=>simp[gD];omega
def Od{e:Zf}{c i:Nat}{a:Y0}{u:Zb}(h:w.ownsRow k e 1 (qL j n c) n a):(w.setCell ⟨j,i,none⟩ u).ownsRow k e 1 (qL j n c) n<|a.set i u:=by
 obtain⟨g,l⟩:=h;obtain⟨d,_⟩|⟨y,cap,b,x,o,q,p,r,hs,t⟩:=l
 .cases d
 cases x;refine⟨by rw[Wu];exact g,.inr ⟨j,c,_,rfl,o,bS q _ _,p,r,by simp[hs],?_⟩⟩;rw[<-t];simp[List.take_set]
def tH{g o:Nat}{e:Zf}{v u:Zb}{b:Y0}(h:w.ownsRow i e j v n b)(c:∀k,v.ownBlock=some k->k≠g):(w.setCell ⟨g,o,none⟩ u).ownsRow i e j v n b:=
 cN h (λk a=>VN _ _ _ _<|c k a)
def Bz{o:Nat}{e:Zf}{a:Nat}{v:Zb}{x:ai}{c:Y0}(h:w.ownsRow i e a v n c)(b:∀k,v.ownBlock=some k->k≠j):(xB w j o x).ownsRow i e a v n c:=
 tH (tH (tH h b) b) b
def MF(B:Nat)(wr:Za)(qs:YZ)(q:au):Prop:=wr.ownsRow 0 34 3 q.2 q.1.length (c_ q.1)/\(q∈qs\/∀k,q.2.ownBlock=some k->B<=k)
structure Rl(w0 wr:Za)(ab:YY)(c:aA)(ks:Y4)(ts:Y6)(qs:YZ)(i:Nat)(v:Zb)(lG:Nat)(done:YZ):Prop where
 d:qB w0 wr
 own:wr.ownsRow w0.heap.size 32 1 v qs.length<|df<|done++qs.drop i
 len:done.length=i
 each:∀q∈done,MF w0.heap.size wr qs q
 go:cV ab c ks ts (qs.map (·.1))=gD (done.map (·.1)) lG (cV ab c ks ts<|(qs.drop i).map (·.1))
 a:lG<=i
def Rl.below{wr:Za}{c:Y4}{d:Y6}{i:Nat}{v:Zb}{done:YZ}(h:Rl w wr F R c d o i v n done)(a:qB wr W):Rl w W F R c d o i v n done:=
 ⟨h.d.trans<|a.mono h.d.size,aB a h.own,h.len,λq b=>⟨aB a (h.each q b).1,(h.each q b).2⟩,h.go,h.a⟩
structure Pj(w0 wr:Za)(ab:YY)(ks:Y4)(ts:Y6)(qs:YZ)(i j:Nat)(v nv:Zb)(r cur:YW)(done:YZ):Prop where
 d:qB w0 wr
 own:wr.ownsRow w0.heap.size 32 1 v qs.length<|df done++nv::df (qs.drop<|i+1)
 row:wr.ownsRow w0.heap.size 34 3 nv cur.length<|c_ cur
 a:cur.length=r.length
 len:done.length=i
 each:∀q∈done,MF w0.heap.size wr qs q
 sep:∀q∈done,∀k,q.2.ownBlock=some k->nv.ownBlock≠some k
 set:gO ab r r ks ts=gO ab r cur (ks.drop j) (ts.drop j)
def Pj.below{wr:Za}{c:Y4}{d:Y6}{i:Nat}{v:Zb}{done:YZ}(h:Pj w wr F c d o i j v u I J done)(a:qB wr W):Pj w W F c d o i j v u I J done:=
 ⟨h.d.trans<|a.mono h.d.size,aB a h.own,aB a h.row,h.a,h.len,λq b=>⟨aB a (h.each q b).1,(h.each q b).2⟩,h.sep,h.set⟩
def Pj.put{wr:Za}{d:Y4}{l:Y6}{g c:Nat}{v:Zb}{done:YZ}{x:ai}(h:Pj w wr F d l o i j v (qL g n c) I J done)(z:k<J.length)(p:d.drop j=k::d.drop (j+1))(t:l.drop j=R::l.drop (j+1))(B:bZ F I R=.ok x):
 Pj w (xB wr g (k*3) x) F d l o i (j+1) v (qL g n c) I (J.set k x) done:=by
 obtain⟨C,m,y⟩:=eX h.row (k:=g) rfl;have a:=(h.row.lt g rfl).1;refine⟨((h.d.setCell a _).setCell a _).setCell a _,Bz h.own λu b=>?_,BA h.row z,by rw[Wu];exact h.a,h.len,λq r=>⟨Bz (h.each q r).1 λu b e=>h.sep q r u b (by rw[e];rfl),(h.each q r).2⟩,h.sep,?_⟩
 .obtain⟨D,E,A⟩:=eX h.own b;exact gZ A y<|by decide
 .rw[h.set,p,t,gO,B]
def J1(w:Za)(qs:YZ)(o:aV<|List YW×Nat)(e:Ending)(w':Za):Prop:=qB w w' /\
 ((∃er:Nat,o=.error er/\(er=4\/er=5)/\e=.returned (.tuple #[qN,qI 0,qI (er:Nat)])) \/
  (∃(done:YZ) (v:Zb) (lG:Nat),o=.ok (done.map (·.1),lG)/\e=.returned (.tuple #[v,qI (lG:Nat),qI 0])/\w'.ownsRow w.heap.size 32 1 v done.length (df done)/\(∀q∈done,MF w.heap.size w' qs q)/\(qs=[]->v=qN)/\done.length=qs.length))
def Oc{v:Zb}(h:w.ownsRow n 34 3 v I.length<|c_ I)(e:I≠[]):oJ w w.heap.size I v:=by
 obtain⟨rfl,d⟩|⟨g,cap,c,rfl,k,b,l,o,hs,j⟩:=h.2
 .exact absurd (V3.1 d) e
 refine⟨g,cap,rfl,lB b,λi u a=>?_⟩;rw[bC b];rw[<-j,V6]at a;split at a
 .simpa using a
 cases a
def MW(X:dD){d:YZ}{b:List Sg}(hm:rO w w.heap.size d z)(a3:∀q∈d,w.ownsRow 0 34 3 q.2 q.1.length<|c_ q.1)(az:d=[]->z=qN)(aG:br w w.heap.size 2 KC b A)(a6:∀s∈b,i7 w w.heap.size F s.2.1 s.2.2)(hp:i7 w w.heap.size F R B)(hf:gR F R)(a4:∀s∈b,gR F s.2.1)(aD:∀q∈d,ke F q.1/\q.1.length=F.length)(aY:F≠[])(a0:∀s∈b,s.1<F.length)(hl:d.length<=1000)(bu:b.length<=1000)(bj:F.length<=1000):
 Zc prog 109 #[z,A,.agg #[B]] w (J1 w d<|cV F R (places b) (b.map λs=>s.2.1)<|d.map (·.1)):=by
 obtain⟨ra,rc,rfl⟩:=hm.1.slice;obtain⟨sa,sc,rfl⟩:=aG.slice;obtain⟨Q,T,S,rfl⟩:=hp.slice;have au:qB w<|w.alloc<|.cells #[.slice Q T S] 204:=qA;have a8:(w.alloc<|.cells #[.slice Q T S] 204).heap[w.heap.size]?=some (.cells #[.slice Q T S] 204):=aM _ _;have bw:w.heap.size<(w.alloc<|.cells #[.slice Q T S] 204).heap.size:=by simp
 have O:Ze (Zc prog 167 #[.slice ra d.length rc] (w.alloc<|.cells #[.slice Q T S] 204) λe w'=>∃v,e=.returned v/\Rl (w.alloc<|.cells #[.slice Q T S] 204) w' F R (places b) (b.map λs=>s.2.1) d 0 v 0 []/\(d=[]->v=qN)):=by
  by_cases k:d=[]
  .subst k;have e:=az rfl;simp only[WR]at e ⊢;rw[e];apply qS<|C1 _;exact⟨_,rfl,⟨qW,VP _ _ _ _,rfl,λq k=>by simp at k,by simp[rV],qZ⟩,λ_=>rfl⟩
  have p:=hm.below au;obtain⟨C,D,e,t⟩:=p.1;cases e;obtain⟨g,rfl,y,c⟩:=t k;have hs:(df d).length=d.length:=by simp[df]
  have:=AA (df d) ⟨g,0,none⟩ rc (w.alloc<|.cells #[.slice Q T S] 204) (λj u n=>?_) (λ_=>y) (λu r=>?_) (by rw[hs];omega)
  .rw[hs]at this;refine this.mono ?_;rintro e w'⟨x,v,rfl,l⟩;exact⟨v,rfl,⟨x,by simpa using l,rfl,λq k=>by simp at k,by simp[rV],qZ⟩,λh=>absurd h k⟩
  .rw[addr_add];unfold df at n;rw[VO]at n;obtain⟨q,h,rfl⟩:=Xh.1 n;have:=c j q h 0 _ rfl;simpa using this
  unfold df at r;obtain⟨q,h,rfl⟩:=VV.1 r;obtain⟨a,R,e⟩:=(hm.2 q h).slice;rw[e];rfl
 generalize ho:cV F R (places b) (b.map λs=>s.2.1) (d.map (·.1))=o;have HO:=Z ho;have HM:=Z hm;have P:=Z a3;have aR:=Z aG;have an:=Z a6;have HP:=Z hp;have aQ:=Z a4;have M:=Z aD;have aO:=Z a0;have I:=Z au;have ap:=Z a8;go_in;go_wp2;go_step3;go_wp2_with refine O.mono ?_;rintro e w1⟨v1,rfl,(ag:Ze _),(aN:Ze _)⟩;obtain⟨va,vn,Y,rfl⟩:=aF ag.own;generalize bv:w.alloc (.cells #[.slice Q T S] 204)=w0 at*;go_wp2;go_step3;go_wp2
 go_loopw [10,23] (λa9 a_ wr=>∃(i lG:Nat) (done:YZ),i<=d.length/\a_=qI (i:Nat)/\a9=qI (lG:Nat)/\lG<=i/\Ze (Rl w0 wr F R (places b) (b.map λs=>s.2.1) d i (.slice va vn Y) lG done)) (λ_ a _=>d.length-(Zk a).toNat)
 exact⟨0,0,[],qO,rfl,rfl,qZ,ag⟩
 case round=>
  obtain⟨i,lG,done,bo,rfl,rfl,be,L⟩:=hrel;have ax:=L.d;have u:qB w wr:=I.trans<|ax.mono I.size;have W:wr.heap[w.heap.size]?=some (.cells #[.slice Q T S] 204):=(ax.block _<|lB ap).trans ap;have bx:=bC W;have C:=lB W;by_cases ae:i<d.length
  .have aZ:d[i]?=some d[i]:=VE ae;have HD:Ze<|d.drop i=d[i]::d.drop (i+1):=VJ ae;have H:=VQ ae;generalize d[i]=p at*;obtain⟨l,pv⟩:=p;obtain⟨g,cap,he,hg,D⟩:=(HM.1.aL λk hk=>u.block k hk).c aZ;cases he;have bn:g<wr.heap.size:=VT hg u.size;obtain⟨qa,qc,a2⟩:∃a R,pv=.slice a l.length R:=(HM.2 _ H).slice;subst a2;have c:=Z<|IC X (HP.below u) ((HM.2 _ H).below u) hf (M _ H).1;simp only at D;have n:=Z H;cases hev:bZ F l R with
   |error j=>
    have x:((j:Int) != 0)=true:=by have:=jc hev;simp;omega
    have h:=Z<|jc hev;simp only at c;rw[hev]at c;have t:Ze<|o=.error j:=by rw[Ze,<-HO,L.go,HD];exact yH hev
    simp only[uh]at c;go_wp2_with fail;apply qR c;intro y r;go_wp2
    (try rw[Exit.noGoto_ret])
    go_ret3;exact⟨Z<|u.trans<|r.mono u.size,.inl ⟨j,t,h,rfl⟩⟩
   |ok x=>
    simp only at c;rw[hev]at c;simp only[uh]at c;have aa:=Z hev;by_cases hx:x=bh true
    ·rw [ai.d hx]at c;have aq:=Z hx;go_wp2_with fail;apply qR c;intro w2 t;have r:=L.below t;have h:qB w w2:=u.trans<|t.mono u.size;have y:l.length=F.length:=(M _ n).2;have a1:0<l.length:=by
      rw[y];exact YN.2 aY
     have j:l≠[]:=YN.1 a1;have aC:l.length<=1000:=by omega
     have aP:=Z y;have aK:=Z<|Ie (Oc (cN (P _ n) λk hk=>h.block k ((P _ n).lt k hk).2) j) aC;have aj:=Z r;have ar:=r.d.size;clear t c r h bx C D y j;go_wp2_with refine aK.mono ?_;rintro e w3⟨aS,v3,rfl,D⟩;obtain⟨E,K,rfl⟩:∃E K,v3=qL E l.length K:=by
      obtain⟨_,C⟩|⟨E,K,_,h,_⟩:=D.2
      .omega
      exact⟨E,K,h⟩
     have t:=aj.below aS;obtain⟨J,c9,y,a7,N,bt⟩:∃J c9 y,Zb.slice va vn Y=qL J d.length c9/\w3.heap[J]?=some (.cells y 32 (0,0))/\d.length<=y.size:=by
      obtain⟨_,C⟩|⟨J,c9,y,h,G,hg,U,hm,hs,V⟩:=t.own.2
      .omega
      exact⟨J,c9,y,h,hg,by omega⟩
     cases a7;have bk:w3.cell? ⟨J,i,none⟩=some y[i]:=by rw[bC N];simp
     have bm:=bF N i;have bz:=lB N;have bp:(i:Int)<(d.length:Nat):=by omega
     have ak:Ze<|Pj w0 (w3.setCell ⟨J,i,none⟩<|qL E l.length K) F (places b) (b.map λs=>s.2.1) d i 0 (qL J d.length Y) (qL E l.length K) l l done:=by
      have hB:w0.heap.size<=J:=(t.own.lt J rfl).1;refine⟨t.d.setCell hB _,?_,bU (tH D λk hk e=>?_) ar,rfl,t.len,λq G=>⟨tH (t.each q G).1 λk hk e=>?_,(t.each q G).2⟩,λq G k hk e=>?_,by simp⟩
      ·have h:=Od (i:=i) (u:=qL E l.length K) t.own;rw[HD]at h;have e:(df<|done++(l,Zb.slice qa l.length qc)::d.drop (i+1)).set i (qL E l.length K)=df done++qL E l.length K::df (d.drop<|i+1):=by
        unfold df;rw[Wc,We,Ws _ _ (by rw[VL,t.len];exact qZ)];rw[VL,t.len,XL,XA]
       rw[e]at h;exact h
      .subst e;obtain⟨C,m,h⟩:=eX D hk;exact gZ h N (by decide) rfl
      .subst e;obtain⟨C,m,h⟩:=eX (t.each q G).1 hk;exact gZ h N (by decide) rfl
      have h:=((aj.each q G).1.lt k hk).2;have C:=(D.lt k e).1;omega
     go_wp2
     go_loopw [48] (λba bb=>∃(j:Nat) (r:YW),j<=b.length/\ba=qI (j:Nat)/\Ze (Pj w0 bb F (places b) (b.map λs=>s.2.1) d i j (qL J d.length Y) (qL E l.length K) l r done)) (λa _=>b.length-(Zk a).toNat)
     exact⟨0,l,qO,rfl,ak⟩;obtain⟨j,r,bq,rfl,HJ⟩:=hrel;have C:qB w wr:=I.trans<|HJ.d.mono I.size;by_cases U:j<b.length
     ·have a5:b[j]?=some b[j]:=VE U;have V:=VQ U;have am:Ze<|(places b).drop j=b[j].1::(places b).drop (j+1):=by
       unfold Ze places;rw[<-Xq,<-Xq,VJ U];rfl
      have ao:Ze<|(b.map λs=>s.2.1).drop j=b[j].2.1::(b.map λs=>s.2.1).drop (j+1):=by unfold Ze;rw[<-Xq,<-Xq,VJ U];rfl
      generalize b[j]=s at*;obtain⟨k,st,su⟩:=s;obtain⟨gs,bc,aV,aW,s0,s1⟩:=(aR.aL λk hk=>C.block k hk).y a5;cases aV;have bf:gs<wr.heap.size:=VT aW C.size;obtain⟨pa,pn,pc,aE⟩:=(an _ V).slice;simp only at aE s0 s1;subst aE;have ab:qB wr<|wr.alloc<|.cells #[qI (k:Nat),.slice pa pn pc] 275:=qA;have c:=Z<|runT X (((an _ V).below C).below ab) (((HM.2 _ n).below C).below ab) (aQ _ V) (M _ n).1;have aX:k<l.length:=by rw[aP];exact aO _ V
      have af:=Z ab;simp only at c;cases hev:bZ F l st with
      |error G=>
       have bl:((G:Int) != 0)=true:=by have:=jc hev;simp;omega
       rw[hev]at c;have HE:Ze<|o=.error G:=by unfold Ze;rw[<-HO,L.go,HD];refine vZ aa aq ?_;rw[HJ.set,am,ao,gO,hev]
       simp only[jW,KN]at c;go_wp2_with fail;apply qR c;intro w5 aT;have h:=Z<|(C.trans<|af.mono C.size).trans<|aT.mono (by have:=C.size;simp;omega);go_wp2
       (try rw[Exit.noGoto_ret])
       go_ret3;exact⟨h.alloc h.size _,.inl ⟨G,HE,Z<|jc hev,rfl⟩⟩
      |ok xv=>
       rw[hev]at c;simp only[jW,KN]at c;have ah:=Z hev;go_wp2_with fail;apply qR c;intro w5 av;have aH:w5.heap[wr.heap.size]?=some (.cells #[qI (k:Nat),.slice pa pn pc] 275):=(av.block _<|by simp).trans<|aM _ _;have aw:qB w5<|w5.alloc<|.cells #[qI xv.aC,qI xv.n,qT xv.s] 34:=qA;have h:=((HJ.below af).below av).below aw;have aI:=(aw.block _<|lB aH).trans aH;have aJ:(w5.alloc<|.cells #[qI xv.aC,qI xv.n,qT xv.s] 34).heap[w5.heap.size]?=some (.cells #[qI xv.aC,qI xv.n,qT xv.s] 34):=aM _ _;go_upto_region 17 with fail
       generalize w5.alloc (.cells #[qI xv.aC,qI xv.n,qT xv.s] 34)=W6 at*;have x0:=bC aI;have y0:=bC aJ;simp at x0;have xz:=lB aI;have yz:=lB aJ;obtain⟨bg,aU⟩:=iJ h.own;have o9:=aU i (qL E l.length K) (by rw[VW<|by simp[df,h.len]];simp[df,h.len]);have G:=h.row;rw[h.a]at G;obtain⟨bi,ac⟩:=iJ G;have ay:=kB r;rw[h.a]at ay;have r0:=ac (k*3) _<|VE (show k*3<(c_ r).length by omega);have r1:=ac (k*3+1) _<|VE (show k*3+1<(c_ r).length by omega);have r2:=ac (k*3+2) _<|VE (show k*3+2<(c_ r).length by omega);obtain⟨bd,ad⟩:=xu G E rfl;have f0:=bF ad<|k*3;have f1:=bF ad<|k*3+1;have f2:=bF ad<|k*3+2;have bs:(k:Int)<(l.length:Nat):=by omega
       have al:Ze<|Pj w0 (xB W6 E (k*3) xv).drew F (places b) (b.map λs=>s.2.1) d i (j+1) (qL J d.length Y) (qL E l.length K) l (r.set k xv) done:=(h.put (h.a▸aX) am ao ah).below qW.drew;unfold xB at al;generalize (c_ r)[k*3]'_=u0 at*;generalize (c_ r)[k*3+1]'_=u1 at*;generalize (c_ r)[k*3+2]'_=u2 at*;go_region;all_goals go_wp2_with fail
       all_goals
        go_roundw;exact⟨j+1,_,by omega,by go_num,al⟩
        case measure=>simp[Zk];omega
     obtain rfl:j=b.length:=by omega
     have aL:Ze<|Rl w0 wr F R (places b) (b.map λs=>s.2.1) d (i+1) (qL J d.length Y) (lG+1)<|done++[(r,qL E l.length K)]:=by
      have h:=HJ.o;have V:gO F l l (places b) (b.map λs=>s.2.1)=.ok r:=by rw[h.set,Wt<|by simp[places]];rfl
      refine⟨h.d,?_,by rw[VH,h.len];rfl,λq G=>?_,?_,by omega⟩
      .have:=h.own;simpa[df]using this
      .obtain G|G:=V1.1 G
       .exact h.each q G
       simp at G;subst G;exact⟨bU h.row qO,.inr λk hk=>(h.row.lt k hk).1⟩
      rw[L.go,HD,Wc];exact yI aa aq V
     go_wp2;go_roundw;exact⟨i+1,lG+1,_,by omega,by go_num,by go_num,by omega,aL⟩;simp[Zk];omega
    rw[ai.l hx]at c;have y:=Z hx;go_wp2_with fail;apply qR c;intro E r;have t:Ze<|Rl w0 E F R (places b) (b.map λs=>s.2.1) d (i+1) (.slice va vn Y) lG<|done++[(l,.slice qa l.length qc)]:=by
     have h:=L.below r;refine⟨h.d,?_,by rw[VH,h.len];rfl,λq j=>?_,?_,by omega⟩
     .have:=h.own;rw[HD]at this;simpa[df]using this
     .obtain j|j:=V1.1 j
      .exact h.each q j
      simp at j;subst j;exact⟨aB r<|cN (P _ n) λk hk=>u.block k ((P _ n).lt k hk).2,.inl n.o⟩
     rw[h.go,HD,Wc];exact Ap aa y
    go_wp2;go_roundw;exact⟨i+1,lG,_,by omega,by go_num,rfl,by omega,t⟩;simp[Zk];omega
  obtain rfl:i=d.length:=by omega
  have l:Ze<|o=.ok (done.map (·.1),lG):=by rw[Ze,<-HO,L.go,Wa];simp[cV,gD]
  have c:Ze<|wr.ownsRow w.heap.size 32 1 (.slice va vn Y) done.length<|df done:=by have:=L.own;rw[Wa,WQ]at this;rw[L.len];exact bU this I.size
  have g:Ze (∀q∈done,MF w.heap.size wr d q):=λq j=>⟨(L.each q j).1,(L.each q j).2.imp id λh k hk=>Wf I.size<|h k hk⟩;go_wp2
  (try rw[Exit.noGoto_ret])
  go_ret3;exact⟨u,.inr ⟨done,_,lG,l,rfl,c,g,aN,L.len⟩⟩
def AO{s:aX}(h:bO K s.table=none):cS K s=(K,di 2):=by unfold cS;rw[h]
def AP{s:aX}(h:bO K s.table=some i)(a:b_ (ak K i) [] s.c=.error n):cS K s=(K,di n):=by unfold cS;rw[h];simp only[a]
def AQ{s:aX}{c:Y4}(h:bO K s.table=some i)(a:b_ (ak K i) [] s.c=.ok c)(b:aT (ax (ak K i).name<|ak K i) (aK s.d) 3=some n):cS K s=(K,di n):=by unfold cS;rw[h];simp only[a,b]
def uZ{s:aX}{a:Y4}(h:bO K s.table=some i)(b:b_ (ak K i) [] s.c=.ok a)(c:aT (ax (ak K i).name<|ak K i) (aK s.d) 3=none)(d:cV (ax (ak K i).name<|ak K i) (aK s.d) a (s.c.map (·.aW)) (ak K i).rows=.error n):cS K s=(K,di n):=by unfold cS;rw[h];simp only[b,c,d]
def AR{s:aX}{a:Y4}{z:List YW×Nat}(h:bO K s.table=some i)(b:b_ (ak K i) [] s.c=.ok a)(c:aT (ax (ak K i).name<|ak K i) (aK s.d) 3=none)(d:cV (ax (ak K i).name<|ak K i) (aK s.d) a (s.c.map (·.aW)) (ak K i).rows=.ok z):cS K s=(cm K i z.1,⟨[],z.2,0⟩):=by unfold cS;rw[h];simp only[b,c,d]
def FJ{d:Y_}:(Zi 109 d).run prog w=.ok (.enter 109 d) w:=by
 have g:(f109.name == "runtime.NumGoroutine")=false:=by kernel_rfl
 have c: f109.body.isNone=false:=by kernel_rfl
 have a:¬f109.name = "runtime.NumGoroutine":=by simpa using g
 have b:¬f109.body=none:=by intro e;rw[e]at c;cases c
 simp[Zi,go_sem,func109,a,b]
def Ro(W:Za)(qs:YZ)(o:aV<|List YW×Nat)(v:Zb)(w':Za):Prop:=∃(a:Y8)(m c lG er:Nat),v=.tuple #[.slice a m c,qI (lG:Nat),qI (er:Nat)]/\qB W w' /\
 ((o=.error er/\(er=4\/er=5))\/(er=0/\∃done:YZ,o=.ok (done.map (·.1),lG)/\w'.ownsRow W.heap.size 32 1 (.slice a m c) done.length (df done)/\(∀q∈done,MF W.heap.size w' qs q)/\(qs=[]->Zb.slice a m c=qN)/\done.length=qs.length))
def Pv{f:Nat}{b:Y_}{o:aV (List YW×Nat)}(h:Zc prog f b W<|J1 W p o):Zc prog f b W λe j=>∃v,e=.returned v/\Ro W p o v j:=by
 refine h.mono ?_;rintro e j⟨i,⟨k,g,d,rfl⟩|⟨done,v,lG,g,rfl,d,l,n,q⟩⟩
 .exact⟨_,rfl,none,0,0,0,k,rfl,i,.inl ⟨g,d⟩⟩
 obtain⟨a,m,c,rfl⟩:=aF d;exact⟨_,rfl,a,m,c,lG,0,rfl,i,.inr ⟨rfl,done,g,d,l,n,q⟩⟩
def rI.mem{a:List Sg}(h:rI w W F u a):br W W.heap.size 2 KC a u/\∀s∈a,i7 W W.heap.size F s.2.1 s.2.2:=⟨h.rows,λs hs=>(h.e s hs).prog λk hk=>hk.1⟩
def QK(X:dD):E6:=by
 intro lo w M b n lay D s ps u v (G:Ze _) hn (ab:Ze _) (aq:Ze _) (HV:Ze _) (HS:Ze _) (aa:Ze _) hlo;have aG:=lB hn;have n0:=bC hn 0;have n1:=bC hn 1;have n2:=bC hn 2;simp at n0 n1 n2;obtain⟨ua,uc,rfl⟩:=aq.1.slice;have HF:=Z<|FN s.table G.a;generalize aX:cS D s=out;have E:=Z aX;have P:Ze (∀er w',out=(D,di er)->qB w w'->nj lo w M b out (.returned<|.tuple #[qI 0,qI (er:Nat)]) w'):=λer w' ho hb=>by rw[ho];exact⟨rfl,M,lay,fW.below G.a hb⟩
 have au:Ze (∀w' M' K D' (c:Int),out=(D',⟨[],c,0⟩)->fW lo w M b D' w' M' K->nj lo w M b out (.returned<|.tuple #[qI c,qI 0]) w'):=λw' M' K D' c ho aj=>by rw[ho];exact⟨rfl,M',K,aj⟩
 generalize nj lo w M b out=a7 at*;obtain⟨va,a5⟩:=HV.ptr;subst a5;cases hta:bO D s.table with
 |none=>
  rw[hta]at HF;have a:=Z<|P 2 w (by rw[<-E];exact AO hta) qW;simp only[iA]at HF;go_in;go_wp2_with fail;apply qS HF;go_wp2;exact a
 |some i=>
  obtain⟨l,(HL:Ze _),(Q:Ze _),aJ⟩:=oG G.a<|cx hta;rw[hta,aJ]at HF;have hT:=G.a.c i l _ HL Q;have d:=G.a.ok.2 _<|dS<|cx hta;obtain⟨cv,z,I,_⟩:=hT.q;have l0:=bC z 0;have l1:=bC z 1;have l2:=bC z;simp at l0 l1;have ah:=lB z;have F:=Z hta;have B:=Z d
  have am:=Z (x_ (ak D i) ah l0 l1 (pW I) (by have:=d.b;omega) G.rules G.d.2 aq (λp hp=>HS.c (by rw [aa];decide) p.1 (by rw [<-ab];exact V0 hp)) (by
   have t:=HS.len;rw[<-ab,VL]at t
   omega))
  rw[ab]at am;go_in;go_wp2_with fail;apply qR HF;intro A t;rw[t];go_wp2_with refine am.mono ?_;rintro e A⟨(h:Ze _),a2⟩;obtain⟨er,t,H,rfl⟩|⟨L,sv,t,H,rfl,h3⟩:=a2
  .have g:((er:Int) != 0)=true:=by simp;omega
   have a:=Z<|P er A (by rw[<-E];exact AP F t) h;go_wp2;exact a
  obtain⟨sa,sn,sc,rfl⟩:=aF h3.own;have O:=Z t;have ac:=Z H;have aU:=Z h3;have X1:=G.below h;have ba:=Z X1;have C:Ze (∀U,qB A U->_):=λU hW=>Dx (X1.a.below hW) HL Q d (ak D i).name;have y:Ze (∀U v',qB A U->br U U.heap.size 3 lS (ax (ak D i).name<|ak D i) v'->_):=λU v' hW J=>FD<|qh s.d (ax (ak D i).name<|ak D i) (.pointer va) v' U ⟨(X1.below hW).rules,(X1.below hW).d.2,((HV.aL λk hk=>h.block k hk).more h.size |>.aL (λk hk=>hW.block k hk)).more hW.size,HS.d,J,by rw[cH];have:=d.b;omega⟩;have al:Ze<|qB A A.drew:=qW.drew;have W:Ze<|qB A (A.alloc<|.cells #[qN] 204).drew:=(qA).drew;have aS:Ze<|(A.alloc<|.cells #[qN] 204).drew.heap[A.heap.size]?=some (.cells #[qN] 204):=aM A _;have k0:=(VK<|h.block l.n ah).trans l0;have kz:l.n<A.heap.size:=VT ah h.size;have q2:=(VK<|h.block n aG).trans n2;have qz:n<A.heap.size:=VT aG h.size;go_upto_region 7 with fail
  go_cut [8,9] (λs8 s9 wx=>∃(xb:Nat) (p4:Y8) (n4 c4 o:Nat),s9=qP xb/\s8=qI (o:Nat)/\Ze (qB A wx/\wx.heap[xb]?=some (.cells #[.slice p4 n4 c4] 204)/\JX (ax (ak D i).name<|ak D i) (aK s.d) wx p4 n4 c4 o))
  case first=>
   go_region_law (first
    | (refine dQ rfl (.tmp 37) (.tmp 41) rfl pH rfl rfl (C _ al) ?_
       rintro v3 V⟨g,⟨a3,n3,c3,rfl⟩,j⟩;have a:=Z<|al.trans g;have N:=Z j;have aV:n<V.heap.size:=(by have:=a.size;omega);have aW:=(VK<|a.block n qz).trans q2;have T:=Z<|VR 0
       clear g j)
    | (refine dQ rfl (.tmp 37) (.tmp 41) rfl pH rfl rfl (C _ W) ?_
       rintro v3 V⟨g,⟨a3,n3,c3,rfl⟩,j⟩;have a:=Z<|W.trans<|g.mono W.size;have N:=Z j;have aV:n<V.heap.size:=(by have:=a.size;omega);have aW:=(VK<|a.block n qz).trans q2;have R:Ze<|V.heap[A.heap.size]?=some (.cells #[qN] 204):=(g.block _<|by simp[Za.drew]).trans aS
       clear g j)
    | (refine dQ rfl (.tmp 36) (.tmp 42) rfl jR rfl rfl (y _ _ a N) ?_
       rintro v4 w4⟨p4,n4,c4,o,rfl,j,q⟩;have r:=Z<|a.trans<|j.mono a.size;have x:=Z q;have g:=bB j (lB R) R;have r0:=bC g 0;have rf:=bF g 0;simp at r0;have rz:=lB g;have S:=Z g
       clear j q g)
    | (refine dQ rfl (.tmp 36) (.tmp 42) rfl jR rfl rfl (y _ _ a N) ?_
       rintro v4 w4⟨p4,n4,c4,o,rfl,j,q⟩;have r:=Z<|a.trans<|j.mono a.size;have x:=Z q;have Y:=T
       clear j q)
    | (refine dQ rfl (.tmp 36) (.tmp 42) rfl jR rfl rfl (y _ _ (a.alloc a.size<|.cells #[qN] 204)<|N.below<|qW.alloc qZ<|.cells #[qN] 204) ?_
       rintro v4 w4⟨p4,n4,c4,o,rfl,j,q⟩;have r:=Z<|(a.alloc a.size<|.cells #[qN] 204).trans<|j.mono<|Wf a.size (by simp);have x:=Z q;have g:=bB j (by simp)<|aM V<|.cells #[qN] 204;have r0:=bC g;have rf:=bF g 0;have rz:=lB g;have S:=Z g;have a6:=T
       clear j q g))
   all_goals go_wp2_with fail
   all_goals go_meet
   all_goals first
    |exact⟨_,_,_,_,_,rfl,rfl,zZ r S qZ (Z<|lB R).o x⟩
    |exact⟨_,_,_,_,_,rfl,rfl,zZ r S a.size (by simp) x⟩
    |exact⟨_,_,_,_,_,rfl,rfl,FG r x⟩
  obtain⟨xb,p4,n4,c4,o,rfl,rfl,an⟩:=hcut;obtain⟨az,aP,a0⟩:=an.o;have a:qB w wc:=h.trans<|az.mono h.size;obtain af|⟨rfl,aN,ai⟩:=a0
  .have j:((o:Int) != 0)=true:=by have:=fu af;simp;omega
   have g:=Z<|P o wc (by rw[<-E];exact AQ F O af) a;go_wp2;exact g
  have aY:=G.below a;have hT:=aY.a.c i l _ HL Q;obtain⟨hm,(ad:Ze _),(ao:Ze _)⟩:=JD hT;have d:=B.o;have T:∀p∈(ak D i).rows.zip l.us,aZ (ax (ak D i).name<|ak D i) p.1:=λp hp=>(d.rows p.1 (by rw[<-ad];exact V0 hp)).src;have S:qB wc wc.drew:=qW.drew;have ag:gR (ax (ak D i).name<|ak D i)<|aK s.d:=by obtain⟨j,t,_⟩:=gv aN;exact⟨nV HS.d,j,t⟩
  obtain⟨mm,aE,(ap:Ze _)⟩:=nJ O;simp only[Wz]at aE;subst aE;have a4:L.length=s.c.length:=by have:=Wd List.length ac;simpa using this
  have V:∀q∈L,gR (ax (ak D i).name<|ak D i) q.2.1/\q.1<(ak D i).a.length:=λq g=>by
   obtain⟨j,r,rfl⟩:=Xe g;have t:(places L)[j]?=some L[j].1:=by rw[places,VO,VE r];rfl
   have H:(s.c.map (·.aW))[j]?=some L[j].2.1:=by rw[<-ac,VO,VE r];rfl
   obtain⟨h3,x⟩:=ap.2 j _ _ t H;obtain⟨ty,h5,_⟩:=gv x;obtain⟨it,hit,e⟩:=VV.1<|VY H;refine⟨⟨?_,ty,h5⟩,h3⟩;rw[<-e];exact HS.c (by rw[aa];decide) it hit
  have aL:=(aU.below az).below S |>.mem
  have Y:=Z (Pv (MW X (hm.below S) (λq g=>aB S (ao q g).1) (λe=>hT.empty (by rw [<-ad,e];rfl)) aL.1 aL.2 (ai.below S) ag (λq g=>(V q g).1) (λq g=>⟨⟨(T q g).2.1,W_ (T q g).1.symm⟩,(T q g).1⟩) (by
   intro e;have t:(ax (ak D i).name<|ak D i).length=0:=by rw[e];rfl
   rw[cH]at t;have:=d.pos
   omega) (λq g=>by rw[cH];exact(V q g).2) (by rw[WS];have:=d.d;omega) (by rw[a4];have:=HS.len;omega) (by rw[cH];have:=d.b;omega)))
  rw[ad,ac]at Y;obtain⟨bb,z,a8,_⟩:=hT.q;have aQ:=bC z 2;simp at aQ;have a9:=lB z;have x0:=bC aP;have bc:=lB aP;have ar:=Z aN;have a_:=Z T;have N:=Z a;obtain⟨ra,rc,a3⟩:=bN hT.rows;rw[a3]at Y aQ;go_upto_region 10 with fail
  go_region_law (refine eN rfl (.tmp 53) (.tmp 54) (.tmp 55) rfl FJ rfl rfl rfl Y ?_
                 rintro v6 w6⟨a6,m6,c6,av,aw,rfl,R,(aT:Ze _)⟩;have aR:=Z R
                 clear R)
  all_goals
   have R:qB wc w6:=Zd.trans qW.drew aR;have ay:qB w w6:=N.trans<|R.mono N.size;obtain⟨aC,af⟩|⟨rfl,done,hz,aI,ae,aA,aD⟩:=aT.o
   .have r:((aw:Int) != 0)=true:=by simp;omega
    have j:=Z<|P aw w6 (by rw[<-E];exact uZ F O ar aC) ay;go_wp2;exact j
   .have a1:=cx F
    have aO:=oY B (λx hx=>by
     obtain⟨it,hit,rfl⟩:=VV.1 hx
     exact HS.c (by rw[aa];decide) it hit) ap (λr J=>(B.rows r J).src) hz
    have aH:ec<|cm D i<|done.map (·.1):=G.o.a.ok.set a1 (by have:=B.o.d;have:=aO.2.1;simp only at this;omega) λr J=>(aO.1 r J).c
    obtain ⟨⟨cv,I⟩,aj⟩:=KG (rows:=done.map (·.1)) (us:=df done) (v':=.slice a6 m6 c6) G.o.a HL.o Q.o ay (by rw [VL];exact bU aI (show w.heap.size<=wc.heap.size from N.o.size)) (λe=>aA<|V3.1 (by rw [<-aD,Xs.1 e];rfl)) (λj r u J hu=>by
     rw[VO]at J;unfold df at hu;rw[VO]at hu;cases hj:done[j]? with
     |none=>rw[hj]at J;cases J
     |some p=>
      rw[hj]at J hu;cases J;cases hu;obtain⟨t,H⟩:=ae p<|VY hj;refine⟨t,λk hk=>?_⟩;obtain H|H:=H
      .exact .inl<|(ao p H).2 k hk
      .exact .inr ⟨Wf N.size<|H k hk,(t.lt k hk).2⟩) aH
    have HE:=Z<|au _ _ _ _ (av:Nat) (by rw[<-E];exact AR F O ar hz)<|aj.low hlo;have s2:=bC I;have sf:=bF I 2;have sz:=lB I;go_wp2;exact HE
