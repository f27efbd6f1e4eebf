import Derived.Laws.CopyOwn
import Derived.Deep.CutBlock
import Derived.Test.YtojdpjpldokjmaaGreatDoorC22
import Derived.Test.YtojdpjpldokjmaaGreatDoorC23
set_option maxHeartbeats 0
set_option maxRecDepth 100000
set_option linter.all false
namespace Go.Proofs.YtojdpjpldokjmaaGreatDoor
open Go.Deep Go.RowKit Tryz
open Go renaming World->Za,Value->Zb,Calls->Zc,TypeId->Zf,maxLen->Zj
open RowKit renaming Below->Zd,Hid->Ze,intOf->Zk
variable{W w x:World}{A B u z:Value}{i j k n:Nat}{F:YY}{o p:YZ}{M a:Int}{N O:List YW}{K:aI}{R:aA}{r:List (ay×Value)}{L b:Bool}{G H:Y7}{X:YX}{g:Y5}{I:YW}{D E:YV}
def Cn(ds:List Bool)(a b:RR):Bool:=decide<|lQ ds a.q.1 b.q.1<=0
def Eg(d:List Bool):jC<|Cn d:=by have h:=(nd d).ord;exact⟨λa b=>h.total a.q.1 b.q.1,λa b c=>h.trans a.q.1 b.q.1 c.q.1⟩
def Sq{ds:List Bool}{a:List Int}(b:ds.length=a.length){x y:RR}(c:hZ a x.q.1)(d:hZ a y.q.1):(cq x.q.1 y.q.1 ds<0)↔Cn ds y x=false:=by rw[mO a ds x.q.1 y.q.1 b c d];have h:=(nd ds).e x.q.1 y.q.1;unfold Cn;rw[decide_eq_false_iff_not];omega
def L3{d:List Bool}{e:List Int}(g:d.length=e.length){b:List RR}(c:∀r∈b,hZ e r.q.1):((bL (Cn d) b).map RR.p).map (·.1)=fA ((b.map RR.p).map (·.1)) (b.map λr=>r.q.1) d:=by
 unfold fA;have i:(b.map λr=>r.q.1).zip ((b.map RR.p).map (·.1))=b.map (λr=>(r.q.1,r.p.1)):=by
  clear c
  induction b with
  |nil=>rfl
  |cons a l ih=>simp only[We,Yk];rw[ih]
 rw[i,<-tC (λr:RR=>(r.q.1,r.p.1)) (Cn d) _ b ?_]
 .rw[Ww,Ww];rfl
 intro x a y h;unfold Cn;show _=decide (cq x.q.1 y.q.1 d<=0);rw[mO e d x.q.1 y.q.1 g (c x a)<|c y h]
structure Rs(w:Za)(base:Nat)(xs:List RR)(v u:Zb):Prop where
 o:w.ownsRow base 163 1 v xs.length<|xs.map λx=>x.p.2
 a:w.ownsRow base 32 1 u xs.length<|xs.map λx=>x.q.2
 each:∀x∈xs,w.ownsRow base 34 3 x.q.2 x.q.1.length<|c_ x.q.1
def Rs.below{base:Nat}{b:List RR}{v:Zb}(h:Rs w base b v u)(a:qB w W):Rs W base b v u:=⟨aB a h.o,aB a h.a,λx c=>aB a<|h.each x c⟩
def uP{P:Program}{y:Array Oper}{o:Oper}{a:Act}{K:Act->Za->Prop}{Q:Exit->Act->Za->Prop}{E:Prop}(D:o.guard=none)(d s:Operand){A:Zf}(F:Zf)
 (L:o.op=.call {callee:=.builtin .copy,args:=#[d,s],argTypes:=#[A,F]}){elem:Zf}(N:P.underlying A=some (.slice elem))(x:(P.info? elem).map (·.size)=some 1)
 (B G:Y8){b c:Nat}(e i:Nat)(I:a.eval d=.slice B b e)(M:a.eval s=.slice G c i)
 {g:Nat}(p:Nat)(n:Y0){t:Zf}(C:w.heap[g]?=some (.cells n.toArray t (0,0)))(l:Y0)(J:l.length=Nat.min c b)
 (r:0<l.length->B=some ⟨g,p,none⟩/\∃z,G=some z/\∀j v,l[j]?=some v->w.cell? (z.add j)=some v)
 (q:p+l.length<=n.length)(R:∀v∈l,v.oneCell'=true)
 (h:∀H,Ze (H.heap[g]?=some (.cells (splice n p l).toArray t (0,0))/\nu g w H)->K (a.put o.dst<|goInt l.length) H):
 if Region.wanted o (yielded y a.tmps)=true then Oper.wp P o a w K Q else E:=by
 have S:Region.wanted o (yielded y a.tmps)=true:=by simp[Region.wanted,D]
 rw[VG S];by_cases O:l.length=0
 .obtain rfl:l=[]:=WW O;have k:=run_copy_none (P:=P) w A F o.type elem B G b e c i N x (by simpa using J.symm);unfold Oper.wp;simp[execOp,L,resolve,invoke,builtin,I,M,k,Result.andThen];exact h w ⟨by simpa[splice]using C,nu.refl _ _⟩
 .obtain⟨rfl,z,rfl,u⟩:=r (by omega);unfold Oper.wp;simp[execOp,L,resolve,invoke,builtin,I,M,run_copy_row (P:=P) w A F o.type elem g p b e z c i n.toArray t l N x C J u (by simpa using q) R,Result.andThen];exact h _ ⟨by simpa[splice]using setRow_heap w g _ _ t _ C,rfl,rfl,rfl,by simp[Za.setRow],λk hk=>setRow_other w g k _ hk⟩
def Gy{g c:Nat}{e:Zf}{L a:Y0}{x:Zb}(h:w.ownsRow i e 1 (qL g (n+1) c) (n+1)<|L++[z])(d:L.length=n)(G:k<=n)(F:w.heap[g]?=some (.cells a.toArray e (0,0)))(q:W.heap[g]?=some (.cells (splice a (k+1)<|L.drop k).toArray e (0,0))):
 (W.setCell ⟨g,k,none⟩ x).ownsRow i e 1 (qL g (n+1) c) (n+1) (L.take k++x::L.drop k):=by
 obtain⟨M,C⟩:=h;obtain⟨B,_⟩|⟨K,cap,cr,J,D,b,E,I,hs,u⟩:=C
 .cases B
 .cases J;rw[F]at b;injection b with b;injection b with b;subst b;have o:a.length=c:=by simpa using hs
  have p:(L.drop k).length=n-k:=by simp[d]
  simp only[Yp]at u;have l:a.take (k+1)=(L++[z]).take (k+1):=by
   have:(a.take<|n+1).take (k+1)=(L++[z]).take (k+1):=by rw[<-u]
   rwa[XW,XE<|by omega]at this
  refine⟨by simp[d];omega,.inr ⟨g,c,_,rfl,D,bS q _ _,E,I,?_,?_⟩⟩
  .simp[splice,o];omega
  simp only[Yp];have y:((splice a (k+1)<|L.drop k).toArray.setIfInBounds k x).toList=(splice a (k+1)<|L.drop k).set k x:=by simp
  rw[y];unfold splice;rw[p,show k+1+(n-k)=n+1 by omega,l];have A:((L++[z]).take (k+1)++(L.drop k++a.drop (n+1))).set k x=L.take k++x::(L.drop k++a.drop (n+1)):=by
   have H:((L++[z]).take<|k+1).length=k+1:=by simp[d];omega
   rw[List.set_append_left _ _<|by omega];have:((L++[z]).take<|k+1).set k x=L.take k++[x]:=by
    apply WX;intro j;rw[Wq,H];by_cases t:k=j
    .subst t;rw[VG rfl,VG<|by omega,VW (by simp;omega)];simp[d,XE G]
    rw[VF t];by_cases r:j<k
    .rw[V6,VG<|by omega,VU<|by omega,VU (by simp[d];omega),V6,VG r]
    rw[V7<|by omega,V7 (by simp[d];omega)]
   rw[this];simp
  rw[A,show L.take k++x::(L.drop k++a.drop (n+1))=(L.take k++x::L.drop k)++a.drop (n+1) by simp];exact List.take_left' (by simp[d];omega)
def DU(n o j:Nat):(⟨n,o,none⟩:Addr).add j=⟨n,o+j,none⟩:=by
 unfold Addr.add;split
 .rename_i h;subst h;rfl
 rfl
def CZ(h:Zd n w W)(a:nu i W x)(b:n<=i):Zd n w x:=⟨a.os.trans h.os,a.tape.trans h.tape,a.output.trans h.output,by rw[a.size];exact h.size,λk hk=>(a.block k<|by omega).trans<|h.block k hk⟩
def Rs.c{z:Za}{g h c d:Nat}{l:List RR}{x:RR}{A p:Y0}(N:w.ownsRow i 163 1 (qL g (n+1) c) (n+1)<|l.map (λx=>x.p.2)++[qN])(O:w.ownsRow i 32 1 (qL h (n+1) d) (n+1)<|l.map (λx=>x.q.2)++[qN])
 (F:l.length=n)(J:k<=n)(I:∀y∈l,w.ownsRow i 34 3 y.q.2 y.q.1.length<|c_ y.q.1)(Q:w.ownsRow i 34 3 x.q.2 x.q.1.length<|c_ x.q.1)(q:w.heap[g]?=some (.cells A.toArray 163 (0,0)))(r:w.heap[h]?=some (.cells p.toArray 32 (0,0)))
 (G:W.heap[g]?=some (.cells (splice A (k+1)<|(l.map λx=>x.p.2).drop k).toArray 163 (0,0))/\nu g w W) (B:z.heap[h]?=some (.cells (splice p (k+1)<|(l.map λx=>x.q.2).drop k).toArray 32 (0,0))/\nu h W z):
 Rs ((z.setCell ⟨g,k,none⟩ x.p.2).setCell ⟨h,k,none⟩ x.q.2) i (l.take k++x::l.drop k) (qL g (n+1) c) (qL h (n+1) d):=by
 have t:g≠h:=gZ q r (by decide);have D:z.heap[g]?=_:=(B.2.block g t).trans G.1;have E:(z.setCell ⟨g,k,none⟩ x.p.2).heap[h]?=_:=(VN _ _ _ _<|WN t).trans B.1;have K:(l.take k++x::l.drop k).length=n+1:=by simp[F];omega
 have a:∀{y:RR},w.ownsRow i 34 3 y.q.2 y.q.1.length (c_ y.q.1)->((z.setCell ⟨g,k,none⟩ x.p.2).setCell ⟨h,k,none⟩ x.q.2).ownsRow i 34 3 y.q.2 y.q.1.length (c_ y.q.1):=λb=>by refine cN b λj P=>?_;obtain⟨C,m,H⟩:=eX b P;have L:j≠g:=gZ H q (by decide);have M:j≠h:=gZ H r (by decide);rw[VN _ _ _ _ M,VN _ _ _ _ L,B.2.block j M,G.2.block j L]
 refine⟨?_,?_,λy b=>?_⟩
 .rw[K];have:=tH (g:=h) (o:=k) (u:=x.q.2) (Gy (x:=x.p.2) N (by simpa using F) J q D) λj C e=>t (by simp[Zb.ownBlock]at C;omega);simpa[XR,Xq]using this
 .rw[K];simpa[XR,Xq]using(Gy (x:=x.q.2) O (by simpa using F) J r E)
 .obtain b|b:=V1.1 b
  .exact a<|I y<|Wr b
  obtain rfl|b:=V8.1 b
  .exact a Q
  exact a<|I y<|WI b
def vX(w:Za)(ab:YY)(ps:YZ)(kts:Y6)(ds:List Bool)(e:Ending)(w':Za):Prop:=qB w w' /\
 ((∃er,aU ab kts (ps.map (·.1))=.error er/\e=.returned (.tuple #[qN,qI (er:Nat)])) \/
  (∃dy qs v,aU ab kts (ps.map (·.1))=.ok dy/\qs.map (·.1)=fA (ps.map (·.1)) dy ds/\(∀q∈qs,q∈ps)/\qs.length=ps.length/\e=.returned (.tuple #[v,qI 0])/\nR w' w.heap.size ab qs v))
structure U0(w wr:Za)(ab:YY)(kts:Y6)(ds:List Bool)(k9:List Int)(ps:YZ)(i:Nat)(v u:Zb)(zs:List RR):Prop where
 d:qB w wr
 a:Rs wr w.heap.size (bL (Cn ds) zs) v u
 rows:zs.map RR.p=ps.take i
 go:aU ab kts (ps.map (·.1))=ie (zs.map λz=>z.q.1) (aU ab kts<|(ps.drop i).map (·.1))
 ok:∀z∈zs,hZ k9 z.q.1/\gY z.q.1
def QB{kp:List (ay×Zb)}{aW rb:Nat}(hm:nR w aW F o A)(an:∀p∈o,aZ F p.1)(hk:rH w rb kp B)(a9:kp.length<=1000)(aC:∀p∈kp,cY p.1.aW/\dX p.1.aW/\∃ty,bD F p.1.aW=.ok ty)(a2:F.length<=100)(cR:o.length<=1000000):
 Zc prog 86 #[A,B] w (vX w F o (kp.map λp=>p.1.aW)<|kp.map λp=>p.1.eC):=by
 obtain⟨ra,rc,rfl,_⟩:=cz hm.1;obtain⟨ka,kc,rfl⟩:=hk.1.slice;obtain⟨i0,a7,cn,bo,co⟩:=V5 iN;obtain⟨j0,a8,cl,bn,cm⟩:=V5 wX;obtain⟨C,Y⟩:∃C,kp.map (λp=>p.1.aW)=C:=⟨_,rfl⟩;obtain⟨D,az⟩:∃D,kp.map (λp=>p.1.eC)=D:=⟨_,rfl⟩;rw[Y,az];have HM:=Z hm;have bV:=Z an;have HK:=Z hk;have bI:=Z aC;have aO:=Z Y;have aM:=Z az;have aq:Ze<|D.length=(fF F C).length:=by unfold Ze fF;rw[<-az,<-Y];simp
 have af:Ze ((∀t∈C,cY t)/\∀t∈C,∃ty,bD F t=.ok ty):=by
  rw[<-Y];refine⟨λt b=>?_,λt b=>?_⟩;all_goals obtain⟨q,a,rfl⟩:=VV.1 b
  .exact(aC q a).1
  .exact(aC q a).2.2
 have bg:(prog.info? 163).map (·.size)=some 1:=by rw[a8];simp[bn]
 have bh:(prog.info? 32).map (·.size)=some 1:=by rw[a7];simp[bo]
 have aS:=Z<|And.intro bg bh;have bR:Ze (∀er w',aU F C (o.map (·.1))=.error er->Zd w.heap.size w w'->vX w F o C D (.returned<|.tuple #[.slice none 0 0,.int .i64 (er:Nat)]) w'):=λer w' he hb=>⟨hb,.inl ⟨er,he,rfl⟩⟩;have aT:Ze (∀V v u w',U0 w w' F C D (fF F C) o o.length v u V->vX w F o C D (.returned<|.tuple #[v,.int .i64 0]) w'):=λV v u w' h=>by
  have b:V.map RR.p=o:=by rw[h.rows,Wj]
  have a:∀q∈(bL (Cn D) V).map RR.p,q∈o:=λq d=>by obtain⟨x,hx,rfl⟩:=VV.1 d;rw[<-b];exact V0<|iO hx
  refine⟨h.d,.inr ⟨V.map λz=>z.q.1,(bL (Cn D) V).map RR.p,v,?_,?_,a,?_,rfl,?_,λp c=>(hm.2 p<|a p c).below h.d⟩⟩
  .rw[h.go,Wa];simp[aU,ie]
  .rw[L3 aq.o λr b=>(h.ok r b).1,b]
  .rw[VL,iq,<-Wd List.length b,VL]
  have:=h.a.o;rw[VL,df,Ww];exact this
 generalize vX w F o C D=cs at*;have bE:Ze<|U0 w w F C D (fF F C) o 0 (.slice none 0 0) (.slice none 0 0) []:=⟨VM _ _,⟨VP _ _ _ _,VP _ _ _ _,λx hx=>(by cases hx)⟩,rfl,by rw[WG];cases aU F C (o.map (·.1))<;>rfl,λz hz=>(by cases hz)⟩;go_in;go_wp2_with fail
 go_loopw [6,7,8] (λs6 s7 s8 wr=>∃(i:Nat) (V:List RR),i<=o.length/\s8=.int .i64 i/\Ze (U0 w wr F C D (fF F C) o i s6 s7 V)) (λ_ _ s8 _=>o.length-(Zk s8).toNat)
 case atStart=>exact⟨0,[],Wi _,rfl,bE⟩
 case round=>
  generalize wr=wo at*;obtain⟨i,V,hi,rfl,HI⟩:=hrel;have ac:=HI.o.d;have br:=ac.size;obtain⟨r,aG⟩:∃r,bL (Cn D) V=r:=⟨_,rfl⟩;have ab:=HI.o.a;rw[aG]at ab;obtain⟨va,vc,ci,cZ⟩:=cz ab.o;obtain⟨ua,uc,ch,cX⟩:=cz ab.a;subst ci;subst ch;have ak:=Z aG;have bW:=Z ab;have bY:Ze<|r.length=i:=by unfold Ze;rw[<-aG,iq];have:=Wd List.length HI.o.rows;rw[VL,Wl]at this;omega
  have c6:r.length<=1000000:=by have:=bY.o;omega
  by_cases aD:i<o.length
  .have aE:o[i]?=some o[i]:=VE aD;have aL:Ze<|o.drop i=o[i]::o.drop (i+1):=VJ aD;have bX:Ze<|o.take (i+1)=o.take i++[o[i]]:=by unfold Ze;rw[V9,aE];rfl
   have ap:=VQ aD;generalize o[i]=p at*;obtain⟨gp,_,he,_,b7,ep⟩:=dA (aB ac HM.o.1) (j:=i) (u:=p.2) (by rw[df,VO,aE];rfl);cases he;have a4:∀X,Zd w.heap.size w X->X.cell? ⟨gp,i,none⟩=some p.2/\gp<X.heap.size:=λX hX=>by obtain⟨c,_,he,_,a,b⟩:=dA HM.o.1 (j:=i) (u:=p.2) (by rw[df,VO,aE];rfl);cases he;exact⟨(VK<|hX.block gp a).trans b,VT a hX.size⟩
   have a3:=(HM.o.2 p ap).below ac;have an:=bV.o p ap;obtain⟨T,pv⟩:=p;obtain⟨N,P,O,bc⟩:=aF a3.2;simp only at bc ep a4;subst bc;have bA:=Z a4
   have HV:=Z (Ac F T (.slice N P O) (HK.o.below ac).q (λq hq=>by
    obtain⟨y,S,rfl⟩:=VV.1 hq;obtain⟨bb,bd,ty,cg⟩:=bI.o y S;have bi:=(HK.o.2 y S).below ac;obtain⟨de,ce⟩:=bi.ptr bb.1
    exact⟨ER an (by omega) bb bd cg bi a3.c,⟨_,ce⟩⟩) ⟨_,_,_,rfl⟩<|by simpa using a9)
   have cc:(kp.map λp=>(p.1.aW,p.2)).map (·.1)=C:=by rw[<-aO.o,Ww];rfl
   rw[cc]at HV;have ao:=Z an;have cP:((i:Nat):Int)<((o.length:Nat):Int):=by omega
   have bt:=Z ac;go_wp2_with fail;apply(U HV).mono;rintro e w3⟨al,cd⟩;have c8:=al.size;have ai:=Z<|bt.o.trans<|al.mono br;rcases cd with⟨er,ad,rfl⟩|⟨I,nv,ad,rfl,ba⟩
   .have b:((er:Int) != 0)=true:=by have:=kF ad;simp;omega
    have a:=Z<|bR.o er w3 (by rw[HI.o.go,aL.o,We];exact An ad) ai.o;go_wp2_with fail;exact a.o
   obtain⟨K,M,L,rfl⟩:=aF ba;obtain⟨cj,bk⟩:=lz ao.o af.o.1 ad;have ck:=nX ao.o af.o.1 af.o.2 ad;have bB:=Z ad;have ag:=Z<|bW.o.below al;have aP:=Z ba;have bj:I.length=kp.length:=by rw[cj,<-aO.o,VL]
   have R:=Z<|And.intro bj<|And.intro bk ck;have b3:∀y∈r,hZ (fF F C) y.q.1/\gY y.q.1:=λy S=>HI.o.ok y<|iO (by rw[ak.o];exact S);have bS:=Z b3;have bJ:=Z (HK.o.below ai.o).1;have b1:=(VK<|al.block gp b7).trans ep;have a6:gp<w3.heap.size:=by omega
   go_upto_block 2 with fail
   go_cut [11]from 13 to 79 (λah wx=>∃k:Nat,k<=r.length/\ah=.int .i64 k/\Ze (Zd w3.heap.size w3 wx/\(∀y∈r.drop k,Cn D y ⟨(T,.slice N P O),(I,.slice K M L)⟩=false)/\(k=0\/∃y,r[k-1]?=some y/\Cn D y ⟨(T,.slice N P O),(I,.slice K M L)⟩=true)))
   case first=>
    go_wp2_with fail
    go_loopw [11] (λah wr=>∃k:Nat,k<=r.length/\ah=.int .i64 k/\Ze (Zd w3.heap.size w3 wr/\(∀y∈r.drop k,Cn D y ⟨(T,.slice N P O),(I,.slice K M L)⟩=false))) (λah _=>(Zk ah).toNat)
    case atStart=>exact⟨r.length,VR _,rfl,VM _ _,λy S=>by rw[Wa]at S;cases S⟩
    obtain⟨k,hk,rfl,HJ⟩:=hrel;obtain⟨d,b8⟩:=HJ.o;by_cases h0:k=0
    .subst h0;have a:Ze (Zd w3.heap.size w3 wr/\∀y∈r.drop 0,Cn D y ⟨(T,.slice N P O),(I,.slice K M L)⟩=false):=HJ.o;go_wp2_with fail;go_meet;exact⟨0,Wi _,rfl,a.o.1,a.o.2,.inl rfl⟩
    have g:k-1<r.length:=by omega
    have bp:r[k-1]?=some r[k-1]:=VE g;have bx:Ze<|r.drop (k-1)=r[k-1]::r.drop k:=by have:=VJ g;rw[show k-1+1=k by omega]at this;exact this
    have bq:=VQ g;generalize r[k-1]=y at*;obtain⟨gb,_,he,_,cM,eb⟩:=dA (aB d ag.o.a) (j:=k-1) (u:=y.q.2) (by rw[VO,bp];rfl);cases he;have n:=aB d<|ag.o.each y bq;obtain⟨qa,qn,qc,cf⟩:=aF n;rw[cf]at eb n;have c:=bS.o y bq
    have J:=Z (T1 (c7 (f:=vC) (λ_=>rfl) (aB d aP.o)<|VR _) (c7 (f:=vC) (λ_=>rfl) n<|VR _) (bJ.o.below d) R.o.1 (by
     rw [c.1.1,<-aq.o,<-aM.o,VL]) a9 (λj a b ha hb=>by
     have b9:=bw ha;have b_:j<(fF F C).length:=by rw[<-R.o.2.2.1];exact b9
     have W:(fF F C)[j]?=some (fF F C)[j]:=VE b_
     exact uE (R.o.2.1 a<|VY ha) (c.2 b<|VY hb) (R.o.2.2.2 j a _ ha W)<|c.1.2 j b _ hb W))
    rw[aM.o]at J;have Q:=Z<|Sq (ds:=D) aq.o (x:=⟨(T,.slice N P O),(I,.slice K M L)⟩) (y:=y) R.o.2.2 c.1;have cx:(0:Int)<((k:Nat):Int):=by omega
    have cy:((k:Nat):Int)-1=((k-1:Nat):Int):=by omega
    have cA:((k-1:Nat):Int)<((r.length:Nat):Int):=by omega
    have cB:(0:Int)<=((k-1:Nat):Int):=by omega
    have bu:=Z d;have cp:=d.size;have H:=Z b8;have bZ:=Z bp;generalize b6:decide (cq I y.q.1 D<0)=cF at*;have G:=Z b6;go_wp2_with fail;apply(U J).mono;rintro e w4⟨rfl,b4⟩;have E:=Z<|bu.o.trans<|b4.mono cp;cases cF with
    |true=>
     have bH:Ze (Zd w3.heap.size w3 w4/\∀z∈r.drop (k-1),Cn D z ⟨(T,.slice N P O),(I,.slice K M L)⟩=false):=by
      refine⟨E.o,λz hz=>?_⟩;rw[bx.o]at hz;rcases V8.1 hz with rfl|hz
      .exact Q.o.1<|by simpa using G.o
      exact H.o z hz
     go_wp2_with fail;go_roundw
     case rel=>exact⟨k-1,by omega,rfl,bH⟩
     simp[Zk];omega
    |false=>
     have HF:Ze<|Zd w3.heap.size w3 w4/\(∀z∈r.drop k,Cn D z ⟨(T,.slice N P O),(I,.slice K M L)⟩=false)/\(k=0\/∃z,r[k-1]?=some z/\Cn D z ⟨(T,.slice N P O),(I,.slice K M L)⟩=true):=by
      refine⟨E.o,H.o,.inr ⟨y,bZ.o,?_⟩⟩;have h1:¬cq I y.q.1 D<0:=by simpa using G.o
      cases ca:Cn D y ⟨(T,.slice N P O),(I,.slice K M L)⟩with
      |true=>rfl
      |false=>exact absurd (Q.o.2 ca) h1
     go_wp2_with fail;go_meet;exact⟨k,hk,rfl,HF⟩
   obtain⟨k,hk,rfl,HJ⟩:=hcut;have aX:=ag.o.below HJ.o.1;have a1:=ai.o.trans<|HJ.o.1.mono ai.o.size;have dc:=a1.size;have dd:=HJ.o.1.size;have aJ:=Z a1;have aw:=Z aX;have bQ:=Z<|bU (aB HJ.o.1 aP.o) br;have cG:=(VK<|HJ.o.1.block gp a6).trans b1;have ct:gp<wc.heap.size:=by omega
   have aa:=aX.o;go_wp2_with (at_builtin;refine VS _ rfl (.tmp 47) (.tmp 48) 169 rfl w.heap.size 163 j0 _ 1 24 underlying169 a8 cl bn cm rfl (by decide) _ _ _ rfl (aa.alloc _) ⟨wc.heap.size,0,none⟩ 1 1 [.slice none 0 0] rfl rfl ?c1 ?c2 ?c3 ?c4 ?c5 ?_);try (case c1=>exact cW wc [.slice none 0 0] 163)
   try (case c2=>first|rfl|(intro x hx;simp at hx;subst hx;rfl))
   case c3=>unfold Zj;omega
   case c4=>omega
   try (case c5=>first|omega|(simp;omega))
   intro v6 wA h6 g6 _;have aY:Zd w.heap.size w wA:=a_ (aJ.o.alloc aJ.o.size _) g6 (λj hj=>(aa.lt j hj).1) (by simp;omega);have am:=eU (aw.o.a.alloc<|.cells #[.slice none 0 0] 163) (aa.alloc _) g6 (by decide);have bz:Ze (∀{y:au},wc.ownsRow w.heap.size 34 3 y.2 y.1.length (c_ y.1)->wA.ownsRow w.heap.size 34 3 y.2 y.1.length (c_ y.1)):=λS=>eU (S.alloc _) (aa.alloc _) g6 (by decide);obtain⟨g,c,rfl⟩:∃g c,v6=.slice (some ⟨g,0,none⟩) (r.length+1) c:=by
    rcases h6.2 with⟨_,h0⟩|⟨g,c,_,h,_⟩
    .omega
    exact⟨g,c,h⟩
   have c9:=aY.size;have aI:=Z aY;have H6:=Z h6;have cC:wc.heap.size<=wA.heap.size:=by have:=g6.size;simp at this;omega
   go_wp2_with (at_builtin;refine VS _ rfl (.tmp 50) (.tmp 51) 29 rfl w.heap.size 32 i0 _ 1 24 underlying29 a7 cn bo co rfl (by decide) _ _ _ rfl (am.alloc _) ⟨wA.heap.size,0,none⟩ 1 1 [.slice none 0 0] rfl rfl ?d1 ?d2 ?d3 ?d4 ?d5 ?_);try (case d1=>exact cW wA [.slice none 0 0] 32)
   try (case d2=>first|rfl|(intro x hx;simp at hx;subst hx;rfl))
   case d3=>unfold Zj;omega
   case d4=>omega
   try (case d5=>first|omega|(simp;omega))
   intro v7 wB h7 g7 _;have b5:Zd w.heap.size w wB:=a_ (aI.o.alloc aI.o.size _) g7 (λj hj=>(am.lt j hj).1) (by simp;omega);have h6:=eU (H6.o.alloc<|.cells #[.slice none 0 0] 32) (am.alloc _) g7 (by decide);have b2:∀{y:au},wc.ownsRow w.heap.size 34 3 y.2 y.1.length (c_ y.1)->wB.ownsRow w.heap.size 34 3 y.2 y.1.length (c_ y.1):=λS=>eU ((bz.o S).alloc _) (am.alloc _) g7 (by decide);obtain⟨h,d,rfl⟩:∃h d,v7=.slice (some ⟨h,0,none⟩) (r.length+1) d:=by
    rcases h7.2 with⟨_,h0⟩|⟨h,d,_,e,_⟩
    .omega
    exact⟨h,d,e⟩
   obtain⟨E,a2,(HG:Ze _)⟩:∃E:Y0,E.length=c/\wB.heap[g]?=some (.cells E.toArray 163 (0,0)):=by
    rcases h6.2 with⟨h0,_⟩|⟨_,_,cr,e,_,a,_,_,b,_⟩
    .cases h0
    cases e;exact⟨cr.toList,by simpa using b,by simpa using a⟩
   obtain⟨H,(aK:Ze _),(HH:Ze _)⟩:∃E:Y0,E.length=d/\wB.heap[h]?=some (.cells E.toArray 32 (0,0)):=by
    rcases h7.2 with⟨h0,_⟩|⟨_,_,cr,e,_,a,_,_,b,_⟩
    .cases h0
    cases e;exact⟨cr.toList,by simpa using b,by simpa using a⟩
   have cI:r.length+1<=c:=by obtain⟨_,_,e,h0⟩:=cz h6;cases e;exact h0
   have cJ:r.length+1<=d:=by obtain⟨_,_,e,h0⟩:=cz h7;cases e;exact h0
   have bl:=(h6.lt g rfl).1;have bm:=(h7.lt h rfl).1;have cN:=lB HG;have cO:=lB HH;have aA:g≠h:=gZ HG HH (by decide);have bs:=Z b5;have aH:=Z h6;have H7:=Z h7;have aN:Ze (∀{y:au},wc.ownsRow w.heap.size 34 3 y.2 y.1.length (c_ y.1)->wB.ownsRow w.heap.size 34 3 y.2 y.1.length (c_ y.1)):=b2;have bv:=Z a2;obtain⟨J,(aj:Ze _)⟩:∃J,(r.map λx=>x.p.2).drop k=J:=⟨_,rfl⟩;obtain⟨G,(W:Ze _)⟩:∃J,(r.map λx=>x.q.2).drop k=J:=⟨_,rfl⟩;have cQ:((k:Nat):Int)<=((r.length:Nat):Int):=by omega
   have cS:((k:Nat):Int)+1<=((r.length:Nat):Int)+1:=by omega
   have cT:((k:Nat):Int)<=((r.length:Nat):Int)+1:=by omega
   have cU:(0:Int)<=((k:Nat):Int)+1:=by omega
   have c0:IntKind.i64.wrap (((k:Nat):Int)+1)=((k:Nat):Int)+1:=fk (by unfold bK;omega);have cV:(((k:Nat):Int)+1).toNat=k+1:=by omega
   have cK:¬c=k:=by omega
   have cL:¬d=k:=by omega
   have aR:Ze (∀j v,J[j]?=some v->wB.cell? ((⟨g,k,none⟩:Addr).add j)=some v):=λj v hj=>by rw[<-aj.o,Xa]at hj;have:=(iJ aH.o).2 (k+j) v (by rw[VU (by have:=bw hj;simpa using this)];exact hj);rw[DU];exact this
   have ax:Ze (∀j v,G[j]?=some v->wB.cell? ((⟨h,k,none⟩:Addr).add j)=some v):=λj v hj=>by rw[<-W.o,Xa]at hj;have:=(iJ H7.o).2 (k+j) v (by rw[VU (by have:=bw hj;simpa using this)];exact hj);rw[DU];exact this
   have ae:Ze<|J.length=r.length-k:=by unfold Ze;rw[<-aj.o];simp
   have Q:Ze<|G.length=r.length-k:=by unfold Ze;rw[<-W.o];simp
   have bT:Ze (∀v∈J,v.oneCell'=true):=λv hv=>by
    rw[<-aj.o]at hv;obtain⟨x,hx,rfl⟩:=VV.1<|WI hv;have hp:x.p∈o:=by have:x.p∈V.map RR.p:=V0<|iO (by rw[ak.o];exact hx);rw[HI.o.rows]at this;exact Wr this
    obtain⟨a,n,c,e⟩:=aF (HM.o.2 _ hp).2;rw[e];rfl
   have aQ:Ze (∀v∈G,v.oneCell'=true):=λv hv=>by rw[<-W.o]at hv;obtain⟨x,hx,rfl⟩:=VV.1<|WI hv;obtain⟨a,n,c,e⟩:=aF<|aw.o.each x hx;rw[e];rfl
   have bO:Ze<|J.length=Nat.min (r.length+1-k) (r.length-k):=by unfold Ze;rw[ae.o];exact(Nat.min_eq_right<|by omega).symm
   have bP:Ze (0<J.length->(if c=k+1 then some (⟨g,0,none⟩:Addr)else some ⟨g,k+1,none⟩)=some ⟨g,k+1,none⟩/\∃aV,some (⟨g,k,none⟩:Addr)=some aV/\∀j v,J[j]?=some v->wB.drew.cell? (aV.add j)=some v):=λhp=>⟨VF (by have:=ae.o;omega),_,rfl,aR.o⟩;have av:Ze<|k+1+J.length<=E.length:=by unfold Ze;rw[ae.o,bv.o];omega
   go_upto_region 16 with fail
   go_cut []from 13 to 79 (λwx=>Ze<|wx.heap[g]?=some (.cells (splice E (k+1) J).toArray 163 (0,0))/\nu g wB wx)
   case first=>
    go_region_law (refine uP rfl (.tmp 56) (.tmp 59) 169 rfl underlying169 aS.o.1 (if c=k+1 then some ⟨g,0,none⟩else some ⟨g,k+1,none⟩) (some ⟨g,k,none⟩) (c-(k+1)) (c-k) (by simp[Act.eval,Act.put]) (by simp[Act.eval,Act.put]) (k+1) E HG.o J bO.o bP.o av.o bT.o ?_
                   intro b a
                   generalize (if c=k+1 then some (⟨g,0,none⟩:Addr)else some ⟨g,k+1,none⟩)=dpx)
    all_goals go_wp2_with fail
    all_goals go_meet
    all_goals exact⟨a.o.1,a.o.2.os,a.o.2.tape,a.o.2.output,a.o.2.size,a.o.2.block⟩
   generalize wc=wC at*;have HC:=Z hcut.o;have b0:Ze<|wC.heap[h]?=some (.cells H.toArray 32 (0,0)):=(HC.o.2.block h<|WN aA).trans HH.o;have da:=HC.o.2.size;have bM:Ze<|G.length=Nat.min (r.length+1-k) (r.length-k):=by unfold Ze;rw[Q.o];exact(Nat.min_eq_right<|by omega).symm
   have bN:Ze (0<G.length->(if d=k+1 then some (⟨h,0,none⟩:Addr) else some ⟨h,k+1,none⟩)=some ⟨h,k+1,none⟩/\∃ aV,some (⟨h,k,none⟩:Addr)=some aV/\∀ j v,G[j]?=some v->wC.drew.cell? (aV.add j)=some v):=λhp=>⟨VF (by have:=Q.o;omega),_,rfl,λj v hj=>by
    have:=ax.o j v hj;rw[DU]at this ⊢
    exact(VK<|HC.o.2.block h<|WN aA).trans this⟩
   have ar:Ze<|k+1+G.length<=H.length:=by unfold Ze;rw[Q.o,aK.o];omega
   go_upto_region 17 with fail
   go_cut []from 13 to 79 (λwx=>Ze<|wx.heap[h]?=some (.cells (splice H (k+1) G).toArray 32 (0,0))/\nu h wC wx)
   case first=>
    go_region_law (refine uP rfl (.tmp 64) (.tmp 67) 29 rfl underlying29 aS.o.2 (if d=k+1 then some ⟨h,0,none⟩else some ⟨h,k+1,none⟩) (some ⟨h,k,none⟩) (d-(k+1)) (d-k) (by simp[Act.eval,Act.put]) (by simp[Act.eval,Act.put]) (k+1) H b0.o G bM.o bN.o ar.o aQ.o ?_
                   intro b a
                   generalize (if d=k+1 then some (⟨h,0,none⟩:Addr)else some ⟨h,k+1,none⟩)=dpx)
    all_goals go_wp2_with fail
    all_goals go_meet
    all_goals exact⟨a.o.1,a.o.2.os,a.o.2.tape,a.o.2.output,a.o.2.size,a.o.2.block⟩
   generalize wc=wD at*;have HD:=Z hcut.o;have a0:Zd w.heap.size w wD:=CZ (CZ bs.o HC.o.2 bl) HD.o.2 bm;have a5:wD.heap[g]?=some (.cells (splice E (k+1) J).toArray 163 (0,0)):=(HD.o.2.block g aA).trans HC.o.1;have be:k<(splice E (k+1) J).length:=by rw[length_splice _ _ _ av.o];have:=av.o;omega
   have n:k<(splice H (k+1) G).length:=by rw[length_splice _ _ _ ar.o];have:=ar.o;omega
   have cD:=bC a5 k;have f6:=bF a5 k;have cE:=bC HD.o.1 k;have f7:=bF HD.o.1 k;simp only[XZ,VE be]at cD;simp only[XZ,VE n]at cE;obtain⟨cH,cu⟩:=bA.o wD a0;have db:=HD.o.2.size;have cv:g<wD.heap.size:=by omega
   have cw:h<wD.heap.size:=by omega
   have bG:Ze<|U0 w ((wD.setCell ⟨g,k,none⟩<|.slice N P O).setCell ⟨h,k,none⟩<|.slice K M L) F C D (fF F C) o (i+1) (.slice (some ⟨g,0,none⟩) (r.length+1) c) (.slice (some ⟨h,0,none⟩) (r.length+1) d)<|V++[⟨(T,.slice N P O),(I,.slice K M L)⟩]:=by
    refine⟨(a0.setCell bl _).setCell bm _,?_,?_,?_,λz hz=>?_⟩
    .have bf:(bL (Cn D) V).Pairwise (λa b=>Cn D a b=true):=jO (Eg D) V;rw[kX<|Eg D,ak.o];rw[ak.o]at bf
     have hd:=yZ (Eg D) (p:=r.take k) (q:=r.drop k) (x:=⟨(T,.slice N P O),(I,.slice K M L)⟩) (by rw [WA];exact bf) (by
      rcases HJ.o.2.2 with h0|⟨y,S,cb⟩
      .exact .inl (by rw[h0];rfl)
      .by_cases h0:k=0
       .exact .inl (by rw[h0];rfl)
       .refine .inr ⟨y,r.take<|k-1,?_,cb⟩;have:=V9 (l:=r) (i:=k-1);rw[show k-1+1=k by omega,S]at this
        simpa using this) HJ.o.2.1
     rw[WA]at hd;have e1:bL (Cn D) [(⟨(T,.slice N P O),(I,.slice K M L)⟩:RR)]=[⟨(T,.slice N P O),(I,.slice K M L)⟩]:=rfl;rw[e1,hd];exact Rs.c (x:=⟨(T,.slice N P O),(I,.slice K M L)⟩) aH.o H7.o rfl hk (λy S=>aN.o (y:=y.q)<|aw.o.each y S) (aN.o (y:=(I,.slice K M L)) bQ.o) HG.o HH.o (by rw[aj.o];exact HC.o) (by rw[W.o];exact HD.o)
    .rw[Wc,HI.o.rows,bX.o];rfl
    .rw[HI.o.go,aL.o,We,x8 bB.o,Wc];rfl
    rcases V1.1 hz with hz|hz
    .exact HI.o.ok z hz
    simp at hz;subst hz;exact⟨R.o.2.2,R.o.2.1⟩
   generalize (splice E (k+1) J)[k]'be=y6 at*;generalize (splice H (k+1) G)[k]'n=y7 at*;go_wp2_with fail;go_roundw
   case rel=>exact⟨i+1,_,by omega,by go_num,bG⟩
   simp[Zk];omega
  obtain rfl:i=o.length:=by omega
  go_wp2_with fail;exact(Z<|aT.o V (.slice va r.length vc) (.slice ua r.length uc) wo HI.o).o
def uo{α:Type}{c:α->α->Bool}:∀(l:List α),(∀a b,c a b=true)->bL c l=l
 |[],_=>rfl
 |x::l,h=>by
  rw[bL,uo l h];cases l with
  |nil=>rfl
  |cons y l=>rw[fw,VG<|h x y]
def sA(a:YY):∀rows:List YW,aU a [] rows=.ok (rows.map λ_=>[])
 |[]=>rfl
 |r::rs=>by rw[aU,bH,sA a rs];rfl
def BO(c:List YW):fA c (c.map λ_=>[]) []=c:=by
 unfold fA
 rw [uo _ (λa b=>by
  have:∀x y:YW,cq x y []=0:=λx y=>by cases x<;>cases y<;>rfl
  rw[this];rfl)]
 induction c with
 |nil=>rfl
 |cons r rs ih=>simp only[We,Yk];rw[ih]
def gy(off lim:Int):Nat->List YW->List YW->List YW
 |_,acc,[]=>acc
 |i,acc,r::rs=>if (decide (off<=(i:Int))&&(decide (lim<0)||decide ((acc.length:Int)<lim)))=true then gy off lim (i+1) (acc++[r]) rs else gy off lim (i+1) acc rs
def oZ:∀(d b:List YW)(i:Nat),a<=(i:Int)->gy a M i b d=b++(if M<0 then d else d.take (M.toNat-b.length))
 |[],b,i,_=>by simp[gy]
 |r::d,b,i,h=>by
  rw[gy];by_cases c:M<0
  .rw[VG<|by simp[h,c],oZ d _ _<|by omega,VG c,VG c];simp
  rw[VF c];by_cases g:(b.length:Int)<M
  .rw[VG<|by simp[h,g],oZ d _ _<|by omega,VF c];have e:M.toNat-b.length=(M.toNat-(b++[r]).length)+1:=by simp;omega
   rw[e,Yd];simp
  rw[VF<|by simp[c,g],oZ d _ _<|by omega,VF c];have e:M.toNat-b.length=0:=by omega
  rw[e];simp
def xT(c:0<=a):∀(b:List YW)(i:Nat),(i:Int)<=a->gy a M i [] b=gQ (b.drop<|a.toNat-i) 0 M
 |[],i,_=>by rw[List.drop_nil];simp[gy,gQ]
 |r::b,i,h=>by
  by_cases d:a=(i:Int)
  .rw[oZ _ _ _<|by omega];have e:a.toNat-i=0:=by omega
   rw[e];simp[gQ]
  rw[gy,VF (by simp;omega),xT c b (i+1)<|by omega];have e:a.toNat-i=(a.toNat-(i+1))+1:=by omega
  rw[e,X_]
def Hv(c:0<=a)(b:List YW):gy a M 0 [] b=gQ b a M:=by rw[xT c b 0<|by omega];simp[gQ]
def ye{a:Y6}:∀rows:List YW,fT false F a rows=aU F a rows
 |[]=>rfl
 |r::rs=>by rw[fT,aU,ye rs];rfl
def vb{a:Y6}:∀rows:List YW,fT true F a rows=.ok rows
 |[]=>rfl
 |r::rs=>by rw[fT,vb rs];rfl
def Lj{s:aX}(b:oM F)(a:∀r∈N,r.length=F.length):fT s.all F (s.c.map (·.aW)) N=aU F (cZ s F) N:=by
 unfold cZ;cases s.all with
 |false=>rw[ye];rfl
 |true=>rw[vb,VG rfl,xL b a]
def Bw(a:Bool)(o:aV<|List YW):mX a [] [] o=match o with
 |.error e=>.error e
 |.ok out=>.ok (if a=true then j8 out else out):=by
 cases o with
 |error e=>rfl
 |ok out=>unfold mX kY j8;simp
def Fo(b:ec K){s:aX}(c:eL s)(a:s.all=true->s.c=[]):ch K s=match jh K s.b (s.c.map (·.aW)) s.d (s.e.map (·.aW))with
 |some e=>.error e
 |none=>match bq K [] s.b with
  |.error e=>.error e
  |.ok is=>match bP K [] [[]] is s.b with
   |.error e=>.error e
   |.ok rows=>fb (aw K is s.b) s rows:=by
 unfold ch jh;cases hsrc:bq K [] s.b with
 |error e=>rfl
 |ok is=>
  simp only;have d:=oF b hsrc c.others;cases bT K [] is s.b with
  |some e=>rfl
  |none=>
   simp only;have g:bE (aw K is s.b) (cZ s<|aw K is s.b)=bE (aw K is s.b) (s.c.map (·.aW)):=by
    unfold cZ;cases ha:s.all with
    |false=>rfl
    |true=>rw[VG rfl,zq d _ [] rfl,a ha];rfl
   rw[g];cases bE (aw K is s.b) (s.c.map (·.aW))with
   |some e=>rfl
   |none=>
    simp only;cases aT (aw K is s.b) (aK s.d) 3 with
    |some e=>rfl
    |none=>
     simp only;cases bE (aw K is s.b) (s.e.map (·.aW))with
     |some e=>rfl
     |none=>rfl
def zo:∀{aN:Y3}{a:List YX}{e:Nat},bq K a aN=.error e->e=2
 |[],_,e,h=>by cases h
 |it::aN,a,e,h=>by
  unfold bq at h;cases ht:bO K it.name with
  |none=>rw[ht]at h;cases h;rfl
  |some i=>
   rw[ht]at h;simp only at h;split at h
   .cases h;rfl
   cases hs:bq K (a++[it.aY]) aN with
   |error x=>rw[hs]at h;cases h;exact zo hs
   |ok js=>rw[hs]at h;cases h
def uN:∀{aN:Y3}{b:List YX}{is:Y4},bq K b aN=.ok is->∀(i:Nat)(c:ay),aN[i]?=some c->∃t,is[i]?=some t/\bO K c.name=some t
 |[],_,is,h,i,c,hi=>by simp at hi
 |a::aN,b,is,h,i,c,hi=>by
  unfold bq at h;cases ht:bO K a.name with
  |none=>rw[ht]at h;cases h
  |some t=>
   rw[ht]at h;simp only at h;split at h
   .cases h
   cases hs:bq K (b++[a.aY]) aN with
   |error x=>rw[hs]at h;cases h
   |ok js=>
    rw[hs]at h;cases h;cases i with
    |zero=>simp at hi;subst hi;exact⟨t,rfl,ht⟩
    |succ i=>simpa using uN hs i c (by simpa using hi)
def ze:∀{is:Y4}{aN:Y3}{ab:YY}{e:Nat},bT K ab is aN=some e->e=2\/e=3
 |[],aN,ab,e,h=>by cases aN<;>cases h
 |i::is,[],ab,e,h=>by cases h
 |i::is,it::aN,ab,e,h=>by
  unfold bT at h;cases ht:aT (ab++ax it.aY (ak K i)) (aK it.aW) 3 with
  |some x=>rw[ht]at h;cases h;exact fu ht
  |none=>rw[ht]at h;exact ze h
def xq:∀{is:Y4}{aN:Y3}{ab:YY},bT K ab is aN=none->∀(i t:Nat)(c:ay),is[i]?=some t->aN[i]?=some c->aT (ab++aw K (is.take i) (aN.take i)++ax c.aY (ak K t)) (aK c.aW) 3=none
 |[],aN,ab,h,i,t,c,h1,h2=>by simp at h1
 |a::is,[],ab,h,i,t,c,h1,h2=>by simp at h2
 |a::is,b::aN,ab,h,i,t,c,h1,h2=>by
  unfold bT at h;cases ht:aT (ab++ax b.aY (ak K a)) (aK b.aW) 3 with
  |some x=>rw[ht]at h;cases h
  |none=>
   rw[ht]at h;cases i with
   |zero=>simp at h1 h2;subst h1;subst h2;simpa[aw]using ht
   |succ i=>
    have:=xq h i t c (by simpa using h1) (by simpa using h2);simpa[aw,Wh]using this
def Cq{a:Y3}{d c:Y6}{e:Nat}(h:jh K a d R c=some e):e=2\/e=3:=by
 unfold jh at h;split at h
 .rename_i x b;cases h;exact .inl<|zo b
 split at h
 .rename_i b;cases h;exact ze b
 split at h
 .rename_i b;cases h;exact EI b
 split at h
 .rename_i b;cases h;exact fu b
 exact EI h
def Cp{a:Y3}{c b:Y6}(h:jh K a c R b=none):∃is,bq K [] a=.ok is/\bT K [] is a=none/\bE (aw K is a) c=none/\aT (aw K is a) (aK R) 3=none/\bE (aw K is a) b=none:=by
 unfold jh at h;split at h
 .cases h
 rename_i is hi;split at h
 .cases h
 rename_i d;split at h
 .cases h
 rename_i e;split at h
 .cases h
 rename_i g;exact⟨is,hi,d,e,g,h⟩
def zN{D:aI}{c:Y4}{b:Y3}{ab:YY}{rows:List YW}{e:Nat}{a:ay}(h:c[i]?=some n)(d:b[i]?=some a)(k:aR (ab++ax a.aY (ak D n)) (aK a.aW) a.eC (ak D n).a.length (ak D n).rows rows=.error e):bP D ab rows (c.drop i) (b.drop i)=.error e:=by obtain⟨g,rfl⟩:=VZ.1 h;obtain⟨j,rfl⟩:=VZ.1 d;rw[VJ g,VJ j,bP,k]
def yj{D:aI}{c:Y4}{b:Y3}{ab:YY}{rows z:List YW}{a:ay}(h:c[i]?=some n)(d:b[i]?=some a)(j:aR (ab++ax a.aY (ak D n)) (aK a.aW) a.eC (ak D n).a.length (ak D n).rows rows=.ok z):bP D ab rows (c.drop i) (b.drop i)=bP D (ab++ax a.aY (ak D n)) z (c.drop<|i+1) (b.drop<|i+1):=by obtain⟨e,rfl⟩:=VZ.1 h;obtain⟨g,rfl⟩:=VZ.1 d;rw[VJ e,VJ g,bP,j]
def Qj{e:Zf}:(w.alloc<|.cells #[u] e).ownsRow w.heap.size e 1 (qL w.heap.size 1 1) 1 [u]:=⟨rfl,.inr ⟨_,1,#[u],rfl,qZ,aM _ _,qZ,by decide,rfl,rfl⟩⟩
def TR(h:∃p l,r=p::l/\p.1.aW=.nil/\∀q∈l,cY q.1.aW/\dX q.1.aW){q:ay×Zb}(a:r[i]?=some q)(b:bz w n q.1.aW q.2):Mn w n q.1.aW q.2:=by
 obtain⟨p,l,rfl,d,c⟩:=h;cases i with
 |zero=>simp at a;subst a;rw[d]at b ⊢;exact .inl ⟨rfl,b⟩
 |succ j=>have:=c q<|VY (by simpa using a);exact .inr ⟨this.1,this.2,b⟩
structure U_(w wr:Za)(D:aI)(bl:Y3)(is:Y4)(i:Nat)(v:Zb)(ps:YZ):Prop where
 d:qB w wr
 l:nR wr w.heap.size (aw D (is.take i)<|bl.take i) ps v
 a:∀p∈ps,aZ (aw D (is.take i)<|bl.take i) p.1
 len:ps.length<=25 ^ i
 go:bP D [] [[]] is bl=bP D (aw D (is.take i)<|bl.take i) (ps.map (·.1)) (is.drop i) (bl.drop i)
structure UZ(w wr:Za)(C:YY)(c:aA)(ps:YZ)(i:Nat)(v:Zb)(a b:YZ):Prop where
 d:qB w wr
 l:nR wr w.heap.size C a v
 len:a.length+b.length=i
 e:cu C c ps=iK a b (cu C c<|ps.drop i)
def Br:∀(a met:List YW),(fq met a).length<=a.length
 |[],_=>qZ
 |r::a,met=>by
  rw[fq];split
  .have:=Br a met;simp;omega
  have:=Br a<|met++[r];simp;omega
def FM{a:Y6}:∀{rows out:List YW},fT b F a rows=.ok out->out.length=rows.length
 |[],out,h=>by cases h;rfl
 |r::rs,out,h=>by
  unfold fT at h;cases hv:wO b F a r with
  |error e=>rw[hv]at h;cases h
  |ok v=>
   rw[hv]at h;simp only at h;cases hr:fT b F a rs with
   |error e=>rw[hr]at h;cases h
   |ok vs=>rw[hr]at h;cases h;simp[FM hr]
def Qi{a:Y6}(h:mX L [] [] (fT b F a N)=.ok O):O.length<=N.length:=by
 rw[Bw]at h;cases hv:fT b F a N with
 |error e=>rw[hv]at h;cases h
 |ok vs=>
  rw[hv]at h;cases h;have:=FM hv;split
  .have:=Br vs [];unfold j8;omega
  omega
structure Tb(w wr:Za)(off lim:Int)(tq:YZ)(B i:Nat)(v:Zb)(lq:YZ):Prop where
 d:qB w wr
 own:wr.ownsRow w.heap.size 32 1 v lq.length<|df lq
 mem:∀q∈lq,q∈tq
 go:gy off lim 0 [] (tq.map (·.1))=gy off lim i (lq.map (·.1)) ((tq.drop i).map (·.1))
 len:lq.length<=i
def Tb.push{wr:Za}{v:Zb}{q:au}(h:Tb w wr a M o n j v p)(g:q∈o)(e:gy a M 0 [] (o.map (·.1))=gy a M (j+1) (p.map (·.1)++[q.1]) ((o.drop<|j+1).map (·.1))){O:Obj}(c:W.ownsRow w.heap.size 32 1 u (p.length+1)<|df p++[q.2])(d:(wr.alloc O).grownBy W v.ownBlock):Tb w W a M o n (j+1) u<|p++[q]:=by
 have i:=h.d.size;refine⟨a_ (h.d.alloc h.d.size _) d (λk hk=>(h.own.lt k hk).1) (by simp;omega),by simpa[df]using c,λx b=>?_,by rw[Wc];exact e,by have:=h.len;simp;omega⟩;obtain b|b:=V1.1 b
 .exact h.mem x b
 simp at b;subst b;exact g
def SH(s:aX)(k:eL s)(hk:s.aC=115)(z:DS s)(B:s.all=true->s.c=[]){D ip U:List (ay×Zb)}(g:D.map (·.1)=s.b)(x:ip.map (·.1)=s.c)(j:U.map (·.1)=s.e){rb:Nat}{kv iv wv u0 u1:Zb}{b:Nat}{cb:Y5}(h:jE w G b cb K)
 (hn:w.heap[n]?=some (.cells #[u0,u1,iv,A,wv,kv,.bool s.a,.bool s.all,.int .i64 s.g,.int .i64 s.offset] 111))(hS:rH w rb D A)(Y:rH w rb ip iv)(hK:rH w rb U kv)(X:Mn w rb s.d wv):
 Zc prog 52 #[.pointer<|some ⟨b,0,none⟩,.pointer<|some ⟨n,0,none⟩] w (mN w<|ch K s):=by
 have bV:=lB hn;obtain⟨sa,sc,rfl⟩:=hS.1.slice;obtain⟨ia,ic,rfl⟩:=Y.1.slice;obtain⟨ka,kc,rfl⟩:=hK.1.slice;obtain⟨wa,rfl⟩:∃a,wv=.pointer a:=by
  obtain⟨_,rfl⟩|⟨r,_,h2⟩:=X
  .exact⟨_,rfl⟩
  obtain⟨a,rfl⟩:=h2.ptr r.1;exact⟨_,rfl⟩
 have t:ip.length<=1000/\∀p∈ip,cY p.1.aW/\dX p.1.aW:=by
  refine⟨by have:=Wd List.length x;rw[VL]at this;have:=k.len;omega,λp r=>?_⟩;have T:p.1∈s.c:=by rw[<-x];exact V0 r
  exact⟨k.c (by omega) _ T,z.c _ T⟩
 have P:U.length<=1000/\∀p∈U,cY p.1.aW/\dX p.1.aW:=by
  refine⟨by have:=Wd List.length j;rw[VL]at this;have:=k.h;omega,λp r=>?_⟩;have T:p.1∈s.e:=by rw[<-j];exact V0 r
  exact⟨k.e _ T,z.e _ T⟩
 have y:D.length<=3/\∃p l,D=p::l/\p.1.aW=.nil/\∀q∈l,cY q.1.aW/\dX q.1.aW:=by
  obtain⟨a,r,e,ha,_,hr,bX⟩:=k.b hk;cases hq:D with
  |nil=>rw[hq,e]at g;cases g
  |cons p l=>
   rw[hq,e]at g;simp only[We]at g;injection g with e1 e2;refine⟨by have:=Wd List.length e2;rw[VL]at this;simp;omega,p,l,rfl,by rw[e1];exact ha,λq b1=>?_⟩;have T:q.1∈r:=by rw[<-e2];exact V0 b1
   exact⟨bX _ T,z.b _ (by rw[e];simp[T])⟩
 have Q:ip.map (λp=>p.1.aW)=s.c.map (·.aW):=by rw[<-x,Ww];rfl
 have R:U.map (λp=>p.1.aW)=s.e.map (·.aW):=by rw[<-j,Ww];rfl
 have W:U.map (λp=>p.1.eC)=s.e.map (·.eC):=by rw[<-j,Ww];rfl
 have i:=Z<|Ud h hn hS Y hK X y t P;rw[g,Q,R]at i;have J:=Z<|Fo h.ok k B;have HN:=Z hn;have HX:=Z h;have HS:=Z k;have a1:=Z hS;have bw:=Z Y;have bz:=Z hK;have HC:=Z X;have aH:=Z t.2;have aM:=Z P.2;have bM:=Z y;have bR:=t.1;have bT:=P.1;have cF:=y.1;have aD:=Z g;have aE:=Z Q;have ag:=Z R;have bp:=Z W;generalize ho:ch K s=o at*;have N:Ze (∀E M,o=.error E->qB w M->mN w o (.returned<|.tuple #[.slice none 0 0,.int .i64 (E:Nat)]) M):=λE M H hb=>⟨hb,.inl ⟨E,H,rfl⟩⟩;have a3:Ze (∀qs v M,o=.ok (qs.map (·.1))->qB w M->lF M w.heap.size qs v->mN w o (.returned<|.tuple #[v,.int .i64 0]) M):=λqs v M H hb T=>⟨hb,.inr ⟨qs,v,H,rfl,T⟩⟩;generalize mN w o=cf at*;obtain⟨i0,ba,b7,b8,b9⟩:=V5 iN;obtain⟨j0,bS,b3,b4,b5⟩:=V5 wX;have bW:=k.offset;have cy:=k.g;generalize C:s.a=a4 at*;generalize O:s.all=all at*;generalize S:s.g=d at*;generalize I:s.offset=F at*;have aA:=Z C;have au:=Z O;have aO:=Z S;have aW:=Z I;generalize V:jh K s.b (s.c.map (·.aW)) s.d (s.e.map (·.aW))=lk at*;have L:=Z V;clear hn h hS Y hK X t P y g x j Q R W ho k z B C O S I V;cases hlk2:lk with
 |some E=>
  have g:=Cq<|L.trans hlk2;have r:((E:Int) != 0)=true:=by simp;omega
  have k:=Z λM hb=>N E M (by rw[J,hlk2]) hb;rw[hlk2,W8]at i;clear hlk2 g;go_in;go_wp2_with fail;apply qR i;intro t g;have j:=Z<|k t g;clear g i;go_wp2;exact j
 |none=>
  obtain⟨is,(x:Ze _),(aG:Ze _),(br:Ze _),(bs:Ze _),(bt:Ze _)⟩:=Cp<|L.trans hlk2
  have HO:Ze (o=match bP K [] [[]] is s.b with
   |.error e=>.error e
   |.ok rows=>fb (aw K is s.b) s rows):=by
   show _=_;rw[J,hlk2,x];all_goals rfl
  rw[hlk2,W7]at i;obtain⟨(Y:Ze _),(ah:Ze _)⟩:=jT x;clear hlk2 J L;go_in;go_wp2_with fail;apply qR i;intro X g;have bi:=g.size;have r:qB X<|X.alloc<|.cells #[.slice none 0 0] 163:=qA;have k:Ze<|U_ X (X.alloc<|.cells #[.slice none 0 0] 163) K s.b is 0 (.slice (some ⟨X.heap.size,0,none⟩) 1 1) [([],.slice none 0 0)]:=by
   have e:aw K (is.take 0) (s.b.take 0)=[]:=rfl;refine⟨r,⟨Qj,λp t=>?_⟩,λp t=>?_,by simp,rfl⟩
   .simp at t;subst t;rw[e];exact⟨rfl,VP _ _ _ _⟩
   simp at t;subst t;rw[e];exact aZ.nil
  have av:=Z g;have j:=bB g bV HN;have bG:=Z j;have bd:=lB j;have z:X.heap.size<(X.alloc<|.cells #[.slice none 0 0] 163).heap.size:=by simp
  have m3:=bC (bA j<|.cells #[.slice none 0 0] 163) 3;simp at m3;clear g r j i;go_wp2
  go_loopw [6,7,8] (λs6 s7 s8 wr=>∃(i:Nat) (y:YZ),i<=D.length/\s6=.int .i64 0/\s8=.int .i64 i/\Ze (U_ X wr K s.b is i s7 y)) (λ_ _ s8 _=>D.length-(Zk s8).toNat)
  exact⟨0,_,qO,rfl,rfl,k⟩;generalize wr=wo at*;obtain⟨i,y,hi,rfl,rfl,I⟩:=hrel;clear k m3 z;have L:=I.d;have bj:=L.size;obtain⟨va,vc,b2,cJ⟩:=cz I.l.1;subst b2;have g:=bB L bd bG;have m3:=bC g 3;have m4:=bC g 4;simp at m3 m4;have aa:=lB g;have bH:=Z g;have B:=av.trans<|L.mono bi;have j:s.b.length=D.length:=by rw[<-aD,VL]
  have W:=Z j;clear g j;by_cases bc:i<D.length
  .have V:D[i]?=some D[i]:=VE bc;have j:s.b[i]?=some D[i].1:=by rw[<-aD,VO,V];rfl
   obtain⟨g,_,H,cq,e0,e1,e2,e3,e4⟩:=(a1.below B).at V;cases H;have S:=TR bM.2 V<|a1.2 _<|VQ bc;obtain⟨t,hit,J⟩:=uN x i _ j;obtain⟨ty,ap,-⟩:=gv<|xq aG.o i t _ hit j;rw[Wz]at ap;have be:=I.len;have bf:y.length<=1000:=by have:25 ^ i<=25 ^ 2:=Xo (by omega) (by omega);omega
   have a6:=(jj HX.ok (is:=is.take i) (aN:=s.b.take i) λk hk=>ah k<|Wr hk).1;have a8:(aw K (is.take i)<|s.b.take i).length<=100:=by rw[Wl]at a6;omega
   have Q:=Z<|P0 D[i].1 (HX.below B) J I.l I.a a8 bf (S.below B) ap;have R:=Z<|jk (db:=K) hit j;have aJ:=Z λe h=>zN (D:=K) (ab:=aw K (is.take i)<|s.b.take i) (rows:=y.map (·.1)) (e:=e) hit j h;have aL:=Z λz h=>yj (D:=K) (ab:=aw K (is.take i)<|s.b.take i) (rows:=y.map (·.1)) (z:=z) hit j h;have C:=HX.ok.2 _<|dS<|cx J;have al:=Z λz=>lW (a:=aw K (is.take i)<|s.b.take i) (b:=ax D[i].1.aY<|ak K t) (c:=aK D[i].1.aW) (left:=D[i].1.eC) (λq hq=>(C.rows q hq).src) C.d (rows:=y.map (·.1)) (z:=z) (λr hr=>by obtain⟨p,hp,rfl⟩:=VV.1 hr;exact I.a p hp);rw[cH]at al;generalize D[i]=p at*;obtain⟨it,pv⟩:=p;simp only at e0 e1 e2 e3 e4 Q R aJ aL al S;obtain⟨pa,rfl⟩:∃a,pv=.pointer a:=by
    obtain⟨_,rfl⟩|⟨h1,_,h2⟩:=S
    .exact⟨_,rfl⟩
    obtain⟨a,rfl⟩:=h2.ptr h1.1;exact⟨_,rfl⟩
   generalize bb:aR (aw K (is.take i) (s.b.take i)++ax it.aY (ak K t)) (aK it.aW) it.eC (ak K t).a.length (ak K t).rows (y.map (·.1))=jr at*;have bx:=Z bb;have cr:(i:Int)<(D.length:Int):=by omega
   have cl:=Z B;have bL:=Z be;clear B L V j S hit J ap a6 C bb be;go_wp2_with fail;refine Q.mono ?_;rintro e w2⟨C,bY⟩;have cL:=C.size;have S:=Z<|I.d.trans<|C.mono bj;obtain⟨E,j,rfl⟩|⟨qs,v2,j,rfl,J⟩:=bY
   .have cn:((E:Int) != 0)=true:=by have:=nA<|bx.trans j;simp;omega
    have V:=Z<|N E w2 (by rw[HO,I.go,aJ E j])<|av.trans<|S.mono bi;clear j C Q;go_wp2;exact V
   have V:Ze<|U_ X w2 K s.b is (i+1) v2 qs:=by
    obtain⟨r1,r2⟩:=al.o _ j;refine⟨S,?_,λp hp=>?_,?_,?_⟩
    .rw[R];exact⟨bU J.1 bj,J.2⟩
    .rw[R];exact r1 _<|V0 hp
    .rw[VL,VL]at r2;have:=bL.o;rw[XK];exact Wf r2<|Wy _ this
    rw[I.go,aL _ j,R]
   obtain⟨xa,xn,xc,rfl⟩:=aF J.1;clear j C Q J;go_wp2;go_roundw;exact⟨i+1,qs,by omega,rfl,by go_num,V⟩;simp[Zk];omega
  obtain rfl:i=D.length:=by omega
  have k:is.take D.length=is:=VX (by rw[Y,W];exact qZ);have t:s.b.take D.length=s.b:=VX<|W▸qZ;have g:=I.l;have J:=I.a;have j:=I.go;rw[k,t]at g J j;rw[Wt (by rw[Y,W];exact qZ)]at j;have Q:=I.len;have cj:y.length<=15625:=by have:25 ^ D.length<=25 ^ 3:=Xo (by omega) (by omega);omega
  have a7:(aw K is s.b).length<=100:=by have:=(jj HX.ok (is:=is) (aN:=s.b) ah).1;rw[W]at this;omega
  have HU:=Z<|oF HX.ok x HS.others;have V:Ze<|o=fb (aw K is s.b) s (y.map (·.1)):=by
   show _=_;have e:bP K (aw K is s.b) (y.map (·.1)) [] (s.b.drop D.length)=.ok (y.map (·.1)):=by cases s.b.drop D.length<;>rfl
   rw[HO,j,e]
  generalize aw K is s.b=C at*;obtain⟨ty,z,-⟩:=gv bs;have bO:=Z z;have aP:=Z g;have aY:=Z J;have az:=Z B;have bm:=B.size;have r:Ze<|UZ wo wo C (aK s.d) y 0 (.slice none 0 0) [] []:=⟨qW,⟨VP _ _ _ _,λp S=>(by cases S)⟩,rfl,by rw[WG];cases cu C (aK s.d) y<;>simp[iK]⟩;clear k t g J j Q z B L HO x aG Y ah;go_wp2
  go_loopw [9,10] (λs9 aq wr=>∃(k:Nat) (a b:YZ),k<=y.length/\aq=.int .i64 k/\Ze (UZ wo wr C (aK s.d) y k s9 a b)) (λ_ aq _=>y.length-(Zk aq).toNat)
  exact⟨0,[],[],qO,rfl,r⟩;obtain⟨k,a,b',cv,rfl,t⟩:=hrel;clear r;have g:=t.d;have b_:=g.size;obtain⟨xa,xc,b6,cK⟩:=cz t.l.1;subst b6;have q4:=(VK<|g.block n aa).trans m4;have cC:n<wr.heap.size:=by omega
  have B:=az.trans<|g.mono bm;have ci:=t.len;by_cases Q:k<y.length
  ·have z:y[k]?=some y[k]:=VE Q;have R:Ze<|y.drop k=y[k]::y.drop (k+1):=VJ Q;have j:=VQ Q;generalize y[k]=p at*;obtain⟨gp,_,H,_,bQ,ep⟩:=dA (aB g aP.1) (j:=k) (u:=p.2) (by rw[df,VO,z];rfl);cases H;have r:=(aP.2 p j).below g;have J:=aY.o p j;obtain⟨pr,pv⟩:=p;obtain⟨pa,pn,pc,bg⟩:=aF r.2;simp only at bg ep;subst bg;obtain⟨tb,te,(a2:Ze _)⟩:=oR<|bZ C pr<|aK s.d;have bn:Ze (Zc prog 82 #[.pointer wa,.slice pa pn pc] wr.drew λe M=>∃x,e=.returned x/\(x=.tuple #[.bool tb,.int .i64 (te:Nat)]/\qB wr M)):=by
    apply qR<|D9 J (by omega) bO (HC.below B.drew)<|r.c.below (VM _ wr).drew;intro M h;exact⟨_,rfl,a2,qW.drew.trans h⟩
   have bo:=Z r;have cw:(k:Int)<(y.length:Int):=by omega
   clear r J j z g B;go_upto_region 15 with fail
   go_cut [11,12]from 48 to 76 (λcc cd wx=>cc=.bool tb/\cd=.int .i64 (te:Nat)/\Ze (qB wr wx))
   case first=>
    go_region_law (refine dQ rfl (.tmp 58) (.tmp 62) rfl C7 rfl rfl bn ?_
                   rintro z J⟨rfl,j⟩;have r:=Z j
                   clear j)
    all_goals go_wp2_with fail
    all_goals go_meet
    all_goals exact⟨rfl,rfl,r⟩
   obtain⟨rfl,rfl,r⟩:=hcut;have L:=Z<|t.d.trans<|r.mono b_;obtain⟨j,rfl⟩|⟨rfl,x,j,hx⟩:=tB a2.o
   .have J:((te:Int) != 0)=true:=by have:=jc j;simp;omega
    have z:=Z (N te wc (by
     rw[V];unfold fb;rw[fE,t.e,R,rS j]
     rfl)<|az.trans<|L.mono bm)
    clear j;go_wp2;exact z
   cases tb with
   |false=>
    have z:Ze<|UZ wo wc C (aK s.d) y (k+1) (.slice xa a.length xc) a<|b'++[(pr,.slice pa pn pc)]:=⟨L,t.l.below r,by simp;omega,by rw[t.e,R];exact uX j λe=>by simpa using hx.2 e⟩;clear j hx;go_wp2;go_roundw;exact⟨k+1,_,_,by omega,by go_num,z⟩;simp[Zk];omega
   |true=>
    have z:=aB r t.l.1;have bq:Ze<|cu C (aK s.d) y=iK (a++[(pr,.slice pa pn pc)]) b' (cu C (aK s.d)<|y.drop<|k+1):=by show _=_;rw[t.e,R];exact rT j<|hx.1 rfl
    have cm:=(VK<|r.block gp bQ).trans ep;have cM:=r.size;have⟨cg,O⟩:gp<wc.heap.size/\a.length<=15625:=by omega
    clear j hx;go_wp2_with (at_builtin;refine VS _ rfl (.tmp 70) (.tmp 75) 169 rfl wo.heap.size 163 j0 _ 1 24 underlying169 bS b3 b4 b5 rfl (by decide) _ _ _ rfl (z.alloc _) ⟨wc.heap.size,0,none⟩ 1 1 [.slice pa pn pc] rfl rfl ?c1 ?c2 ?c3 ?c4 ?c5 ?_);try (case c1=>exact cW wc [.slice pa pn pc] 163)
    try (case c2=>first|rfl|(intro x hx;simp at hx;subst hx;rfl))
    case c3=>unfold Zj;omega
    case c4=>omega
    try (case c5=>first|omega|(simp;omega))
    intro v' w6 J Y an;have bu:Ze<|UZ wo w6 C (aK s.d) y (k+1) v' (a++[(pr,.slice pa pn pc)]) b':=by have a5:qB wc<|wc.alloc<|.cells #[.slice pa pn pc] 163:=qA;exact⟨a_ (L.alloc L.size _) Y (λj hj=>(z.lt j hj).1) (by simp;omega),(t.l.below r).push a5 ((bo.below r).below a5) J Y,by simp;omega,bq⟩
    clear z J Y an;go_wp2;go_roundw;exact⟨k+1,_,_,by omega,by go_num,bu⟩;simp[Zk];omega
  obtain rfl:k=y.length:=by omega
  generalize wr=wk at*;have z:cu C (aK s.d) y=.ok (a,b'):=by rw[t.e,Wa];simp[cu,iK]
  obtain⟨r,-,x⟩:=me z;have O:a.length<=15625:=by simp at x;omega
  have aj:Ze (∀p∈a,aZ C p.1):=λp S=>aY p<|r p S
  have aT:Ze (o=match aU C (s.e.map (·.aW)) (a.map (·.1))with
   |.error e=>.error e
   |.ok dy=>match aU C (cZ s C) (fA (a.map (·.1)) dy<|s.e.map (·.eC))with
    |.error e=>.error e
    |.ok out=>.ok<|gQ (if s.a=true then j8 out else out) s.offset s.g):=by
   show _=_;rw[V];unfold fb;rw[fE,z];rfl
  have ai:=Z t.l;have j:=bB g aa bH;have k5:=bC j;have aQ:=Z j;have ae:=Z B;have bk:=B.size;have bE:Ze (∀p∈U,cY p.1.aW/\dX p.1.aW/\∃ty,bD C p.1.aW=.ok ty):=λp S=>by refine⟨(aM p S).1,(aM p S).2,m_ bt _ ?_⟩;rw[<-ag];exact V0 (f:=λp:ay×Zb=>p.1.aW) S
  clear z r x g B j t V
  go_upto_if 82 with fail
  go_cut [6,9]from 77 to 139 (λs6 s9 wx=>∃(qs:YZ) (ya:Y8) (yn yc:Nat),s6=.int .i64 0/\s9=.slice ya yn yc/\qs.length<=15625/\Ze (qB wk wx/\nR wx 0 C qs (.slice ya yn yc)/\(∀q∈qs,aZ C q.1)/\∃dy,aU C (s.e.map (·.aW)) (a.map (·.1))=.ok dy/\qs.map (·.1)=fA (a.map (·.1)) dy (s.e.map (·.eC))))
  case first=>
   by_cases P:0<U.length
   .have Y:(0:Int)<(U.length:Int):=by omega
    go_wp2_with fail;apply(Z<|QB ai aj (bz.below ae) bT bE a7<|by omega).mono;rintro e V⟨g,t⟩;rw[ag,bp]at t;obtain⟨E,r,rfl⟩|⟨dy,qs,v2,x,z,B,R,rfl,j⟩:=t
    .have co:((E:Int) != 0)=true:=by have:=kQ r;simp;omega
     have L:=Z<|N E V (by rw[aT,r])<|ae.trans<|g.mono bk;clear r g;go_wp2;exact L
    obtain⟨ya,yn,yc,rfl⟩:=aF j.1;have HF:Ze (qB wk V/\nR V 0 C qs (.slice ya yn yc)/\(∀q∈qs,aZ C q.1)/\∃dy,aU C (s.e.map (·.aW)) (a.map (·.1))=.ok dy/\qs.map (·.1)=fA (a.map (·.1)) dy (s.e.map (·.eC))):=⟨g,⟨bU j.1 qO,j.2⟩,λq hq=>aj q<|B q hq,dy,x,z⟩;have L:qs.length<=15625:=by omega
    clear g j x z B R;go_wp2;go_meet;exact⟨qs,_,_,_,rfl,rfl,L,HF⟩
   have j:¬(0:Int)<(U.length:Int):=by omega
   have g:s.e=[]:=by have t:=Wd List.length ag;simp at t;exact V3.1<|by omega
   have r:Ze (qB wk wk/\nR wk 0 C a (.slice xa a.length xc)/\(∀q∈a,aZ C q.1)/\∃dy,aU C (s.e.map (·.aW)) (a.map (·.1))=.ok dy/\a.map (·.1)=fA (a.map (·.1)) dy (s.e.map (·.eC))):=⟨qW,⟨bU ai.1 qO,ai.2⟩,aj,(a.map (·.1)).map λ_=>[],by rw[g];exact sA _ _,by rw[g];exact(BO _).symm⟩;clear g;go_wp2;go_meet;exact⟨a,_,_,_,rfl,rfl,O,r⟩
  obtain⟨qs,ya,yn,yc,rfl,rfl,cD,HF⟩:=hcut;obtain⟨j,L,B,dy,R,V⟩:=HF.o;have t:=bB j (lB aQ) aQ;have af:=Z<|ae.trans<|j.mono bk
  have z:=Z (UM all a4 t (bw.below af) (λ_ p S=>by
   refine⟨(aH p S).1,(aH p S).2,m_ br _ ?_⟩;rw[<-aE]
   exact V0 (f:=λp:ay×Zb=>p.1.aW) S) bR L B a7<|by omega)
  rw[aE]at z;generalize g:mX a4 [] [] (fT all C (s.c.map (·.aW))<|qs.map (·.1))=ot at*
  have aV:Ze (o=match (generalizing:=false) ot with
   |.error e=>.error e
   |.ok out=>.ok<|gQ out F d):=by
   show _=_;rw[aT,R];simp only;rw[<-V,<-Lj HU (λr hr=>by obtain⟨q,hq,rfl⟩:=VV.1 hr;exact(B q hq).1),au,<-g,Bw,aA,aW,aO];cases fT all C (s.c.map (·.aW)) (qs.map (·.1))<;>rfl
  have bJ:Ze (∀E,ot=.error E->E=4\/E=5):=λE H=>by
   rw[<-g,Bw]at H;cases hv:fT all C (s.c.map (·.aW)) (qs.map (·.1))with
   |ok out=>rw[hv]at H;cases H
   |error x=>
    rw[hv]at H;cases H;cases all with
    |true=>rw[vb]at hv;cases hv
    |false=>rw[ye]at hv;exact kQ hv
  have bK:Ze (∀out,ot=.ok out->out.length<=(qs.map (·.1)).length):=λout H=>Qi<|g.trans H;have bl:=af.size;have aS:=Z t;clear j L B R V g t;go_wp2_with fail;refine z.mono ?_;rintro e w4⟨j,b0⟩;have ad:=Z<|af.trans<|j.mono bl;obtain⟨E,g,rfl⟩|⟨t,tv,g,rfl,(V:Ze _)⟩:=b0
  .have B:((E:Int) != 0)=true:=by have:=bJ.o E g;simp;omega
   have x:=Z<|N E w4 (by rw[aV,g]) ad;clear g j z;go_wp2;exact x
  obtain⟨ta,tc,rfl,cG⟩:=cz V.1;have x:=bB j (lB aS) aS;have r8:=bC x 8;have r9:=bC x 9;simp at r8 r9;have Y:=lB x;have bI:Ze<|o=.ok (gy F d 0 []<|t.map (·.1)):=by show _=_;rw[aV,g,Hv bW.1]
  have ac:=ad.size;have R:Ze<|Tb w4 w4 F d t wc.heap.size 0 (.slice none 0 0) []:=⟨qW,VP _ _ _ _,λq hq=>(by cases hq),rfl,qZ⟩;have cE:wc.heap.size<=w4.heap.size:=j.size;generalize wc.heap.size=B at*;have cI:t.length<=15625:=by have:=bK.o _ g;simp at this;omega
  clear g j z x;go_wp2
  go_loopw [14,15] (λce ar wr=>∃(j:Nat) (L:YZ),j<=t.length/\ar=.int .i64 j/\Ze (Tb w4 wr F d t B j ce L)) (λ_ ar _=>t.length-(Zk ar).toNat)
  exact⟨0,[],qO,rfl,R⟩;obtain⟨j,L,hj,rfl,z⟩:=hrel;clear R;have g:=z.d;have cN:=g.size;obtain⟨za,zc,ca,cO⟩:=cz z.own;subst ca;have q8:=(VK<|g.block n Y).trans r8;have q9:=(VK<|g.block n Y).trans r9;have cB:n<wr.heap.size:=by omega
  have cA:=z.len;by_cases am:j<t.length
  .have R:t[j]?=some t[j]:=VE am;have aC:Ze<|t.drop j=t[j]::t.drop (j+1):=VJ am;have x:=VQ am;generalize t[j]=q at*;obtain⟨gt,_,H,_,cp,et⟩:=dA (aB g V.1) (j:=j) (u:=q.2) (by rw[df,VO,R];rfl);cases H;obtain⟨qr,qv⟩:=q;obtain⟨qa,qn,qc,bh⟩:=aF<|V.2 _ x;simp only at bh et;subst bh;have⟨cs,ct⟩:(j:Int)<(t.length:Int)/\j<=1000000:=by omega
   have a0:Ze<|(decide (F<=(j:Int))&&(decide (d<0)||decide ((L.length:Int)<d)))=false->Tb w4 wr F d t B (j+1) (.slice za L.length zc) L:=λhc=>⟨z.d,z.own,z.mem,by rw[z.go,aC,We,gy,VL,VF (by rw[hc];simp)],by omega⟩;have bN:Ze<|(decide (F<=(j:Int))&&(decide (d<0)||decide ((L.length:Int)<d)))=true->gy F d 0 [] (t.map (·.1))=gy F d (j+1) (L.map (·.1)++[qr]) ((t.drop<|j+1).map (·.1)):=λhc=>by rw[z.go,aC,We,gy,VL,VG hc]
   have bF:=Z x;have ck:=Z g;clear R x g;by_cases h1:F<=(j:Int)
   .have key:(d<0\/(¬d<0/\(L.length:Int)<d))\/(¬d<0/\¬(L.length:Int)<d):=by omega
    obtain hy|⟨h2,h3⟩:=key
    ·have HT:=Z<|bN (by obtain h2|⟨h2,h3⟩:=hy<;>simp[h1, *]);obtain h2|⟨h2,h3⟩:=hy;all_goals
      go_wp2_with (at_builtin;refine VS _ rfl (.tmp 132) (.tmp 137) 29 rfl w4.heap.size 32 i0 _ 1 24 underlying29 ba b7 b8 b9 rfl (by decide) _ _ _ rfl (z.own.alloc _) ⟨wr.heap.size,0,none⟩ 1 1 [.slice qa qn qc] rfl rfl ?d1 ?d2 ?d3 ?d4 ?d5 ?_);try (case d1=>exact cW wr [.slice qa qn qc] 32)
      try (case d2=>first|rfl|(intro x hx;simp at hx;subst hx;rfl))
      case d3=>unfold Zj;omega
      case d4=>omega
      try (case d5=>first|omega|(simp;omega))
      intro v' w6 R a9 ao;have bv:=Z<|z.push bF HT R a9;clear R a9 ao;go_wp2;go_roundw;exact⟨j+1,_,by omega,by go_num,bv⟩
      case measure=>simp[Zk];omega
    have x:=Z<|a0 (by simp[h2,h3]);go_wp2;go_roundw;exact⟨j+1,L,by omega,by go_num,x⟩;simp[Zk];omega
   have x:=Z<|a0 (by simp[h1]);go_wp2;go_roundw;exact⟨j+1,L,by omega,by go_num,x⟩;simp[Zk];omega
  obtain rfl:j=t.length:=by omega
  have x:=Z<|a3 L (.slice za L.length zc) wr (by rw[bI,z.go,Wa];simp[gy]) (ad.trans<|g.mono ac) ⟨bU z.own ac,λq hq=>bU (aB g<|V.2 q<|z.mem q hq) bl⟩;clear g;go_wp2;exact x
def H9(w:Za)(M:Y7)(b:Nat)(o:aI×iW)(e:Ending)(w':Za):Prop:=
 ∃rv qs,e=.returned (.tuple #[.agg #[rv,qI o.2.count],qI (o.2.err:Nat)])/\o.2.rows=qs.map (·.1)/\lF w' w.heap.size qs rv/\∃M' lay',ei w.heap.size w M b o.1 w' M' lay'
def lF.nil(w:Za)(a:Nat):lF w a [] qN:=⟨VP _ _ _ _,λq b=>(by cases b)⟩
def MT{v:Zb}(h:bz w n R v)(a:sS R)(b:dX R):Mn w n R v:=by
 obtain rfl|a:=a
 .exact .inl ⟨rfl,h⟩
 exact .inr ⟨a,b,h⟩
def xF{s:aX}(h:s.aC=99\/s.aC=105):(d_ K s).2.rows=[]:=by
 unfold d_;split
 .unfold dk;repeat' split
  all_goals rfl
 split
 .unfold dI;repeat' split
  all_goals rfl
 omega
def BH{s:aX}:(dm K s).2.rows=[]:=by
 unfold dm;repeat' split
 all_goals rfl
def BI{s:aX}:(cS K s).2.rows=[]:=by
 unfold cS;repeat' split
 all_goals rfl
def PM(V:X.length<=1048576){s:aX}(d:bp X=some s)(r:s.aC=100)(h:jE w G n g K):
 Zc prog 32 #[qP n,qT X] w (zX w G n<|dm K s):=by
 have B:qB w<|w.alloc rM:=qA;have j:=Z B;have L:=Z h;have D:=Z h.lt;have N:=h.lt _ h.own;have q:Ze (∀u x y,nu w.heap.size u<|(u.setCell ⟨w.heap.size,0,none⟩ x).setCell ⟨w.heap.size,1,none⟩ y):=λu x y=>((nu.refl _ _).set 0 x).set 1 y;have z:=Z d;have l:=Z<|ix d;go_in;go_wp2_with apply(Z<|pQ ⟨X.toArray⟩ (w.alloc rM) V).mono;rintro e u⟨c,a,rfl,E⟩;have R:bp (⟨X.toArray⟩:Y9).data.toList=some s:=by simpa using z.o
 rw[R]at E;obtain⟨rb,S,p,vi,vs,vk,vw,rfl,T,i,hi,U,C,O⟩:=E;have F:=bB c (by simp)<|aM w rM;have k:=Z<|j.trans<|c.mono j.size;have Q:=lB i;have I:=bC i 0;simp[bQ]at I;rw[r]at I;have J:=Z F;go_wp2_with fail;refine qR (Z<|Qq (w.heap.size+1) s l r (L.below k) (by have:=c.size;simpa using this) i<|MT C l.d (Z<|nH d).d) ?_;rintro w2⟨M,t,(o:Ze _)⟩;have b:w2.heap[w.heap.size]?=some rM:=(o.aL.block _ ⟨lB F,λP=>by have:=D.o _ P;omega⟩).trans J;have H:=lB b;have f0:=bF b 0;have f1:=bF b 1;have W:=bC b 0;have Y:=bC b 1;simp at W Y;have A:=Z b;go_wp2;exact Jl A rfl rfl ⟨rfl,M,t,ei.boxed D k o<|q _ _ _⟩
def PO(Y:X.length<=1048576){s:aX}(d:bp X=some s)(t:s.aC=117)(h:jE w G n g K):
 Zc prog 32 #[qP n,qT X] w (zX w G n<|cS K s):=by
 have C:qB w<|w.alloc rM:=qA;have j:=Z C;have N:=Z h;have F:=Z h.lt;have P:=h.lt _ h.own;have q:Ze (∀z x y,nu w.heap.size z<|(z.setCell ⟨w.heap.size,0,none⟩ x).setCell ⟨w.heap.size,1,none⟩ y):=λz x y=>((nu.refl _ _).set 0 x).set 1 y;have A:=Z d;have l:=Z<|ix d;have r:=Z<|nH d;go_in;go_wp2_with apply(Z<|pQ ⟨X.toArray⟩ (w.alloc rM) Y).mono;rintro e z⟨c,a,rfl,H⟩;have T:bp (⟨X.toArray⟩:Y9).data.toList=some s:=by simpa using A.o
 rw[T]at H;obtain⟨rb,U,p,vi,vs,vk,vw,rfl,V,i,hi,W,E,Q⟩:=H;have I:=bB c (by simp)<|aM w rM;have k:=Z<|j.trans<|c.mono j.size;obtain⟨ip,D,hit⟩:=hi.y;have S:=lB i;have L:=bC i 0;simp[bQ]at L;rw[t]at L;have M:=Z I;go_wp2_with fail;refine qR (Z<|QL (w.heap.size+1) s l t (N.below k) (by have:=c.size;simpa using this) i D hit r.c<|MT E l.d r.d) ?_;rintro w2⟨O,u,(o:Ze _)⟩;have b:w2.heap[w.heap.size]?=some rM:=(o.aL.block _ ⟨lB I,λR=>by have:=F.o _ R;omega⟩).trans M;have J:=lB b;have f0:=bF b 0;have f1:=bF b 1;have r0:=bC b 0;have r1:=bC b 1;simp at r0 r1;have B:=Z b;go_wp2;exact Jl B rfl rfl ⟨rfl,O,u,ei.boxed F k o<|q _ _ _⟩
def wN:∀{a:Y6}{v:YW},bH F I a=.ok v->v.length=a.length
 |[],v,h=>by cases h;rfl
 |t::a,v,h=>by
  unfold bH at h;cases h1:bZ F I t with
  |error e=>rw[h1]at h;cases h
  |ok x=>
   rw[h1]at h;cases h2:bH F I a with
   |error e=>rw[h2]at h;cases h
   |ok xs=>rw[h2]at h;cases h;simp[wN h2]
def sy{a:Y6}:∀{rows out:List YW},aU F a rows=.ok out->out.length=rows.length/\∀v∈out,v.length=a.length
 |[],out,h=>by cases h;simp
 |r::rs,out,h=>by
  unfold aU at h;cases h1:bH F r a with
  |error e=>rw[h1]at h;cases h
  |ok x=>
   rw[h1]at h;cases h2:aU F a rs with
   |error e=>rw[h2]at h;cases h
   |ok xs=>
    rw[h2]at h;cases h;have c:=sy h2;refine⟨by simp[c.1],λv b=>?_⟩;obtain rfl|b:=V8.1 b
    .exact wN h1
    exact c.2 v b
def pj:∀(met rows:List YW),(fq met rows).Sublist rows
 |_,[]=>.slnil
 |met,r::rs=>by
  unfold fq;split
  .exact(pj met rs).cons _
  exact(pj _ rs).cons_cons _
def CJ:(gQ N a M).Sublist N:=by
 unfold gQ;split
 .exact Yn _ _
 exact(YT _ _).trans (Yn _ _)
def uq(c:ec K){s:aX}(j:eL s)(g:s.aC=115){l:Y4}(d:bP K [] [[]] l s.b=.ok N):N.length<=15625:=by
 have h:=rA (m:=25) (λt k=>(c.2 t k).d) (by decide) d;obtain⟨a,r,b,_,_,n,_⟩:=j.b g;have i:s.b.length<=3:=by rw[b];simp;omega
 have:25 ^ s.b.length<=25 ^ 3:=Xo (by decide) i;have e:(25:Nat) ^ 3=15625:=by decide
 simp at h;omega
def Cf(j:ec K){s:aX}(g:eL s)(k:s.aC=115)(h:ch K s=.ok N):N.length<=15625/\∀r∈N,r.length<=1000:=by
 unfold ch at h;cases h1:bq K [] s.b with
 |error e=>rw[h1]at h;cases h
 |ok is=>
  rw[h1]at h;simp only at h;obtain⟨x,d⟩:=jT h1;repeat' split at h
  all_goals first|(cases h;done)|skip
  rename_i z p;have B:=uq j g k p;have w:=(jj j (aN:=s.b) d).1;obtain⟨a,r,c,_,_,A,_⟩:=g.b k;have q:s.b.length<=3:=by rw[c];simp;omega
  unfold fb at h;cases h2:j9 (aw K is s.b) (aK s.d) z with
  |error e=>rw[h2]at h;cases h
  |ok y=>
   rw[h2]at h;simp only at h;have u:=(vJ h2).2.2;cases h3:aU (aw K is s.b) (s.e.map (·.aW)) y.1 with
   |error e=>rw[h3]at h;cases h
   |ok dy=>
    rw[h3]at h;simp only at h;cases h4:aU (aw K is s.b) (cZ s<|aw K is s.b) (fA y.1 dy<|s.e.map (·.eC))with
    |error e=>rw[h4]at h;cases h
    |ok out=>
     rw[h4]at h;cases h;obtain⟨l,n⟩:=sy h4;have o:out.length<=15625:=by rw[l];unfold fA;rw[VL,iq,WS];have:=u;omega
     have t:(cZ s<|aw K is s.b).length<=1000:=by
      unfold cZ jq;split
      .rw[VL];omega
      rw[VL];have:=g.len;omega
     have b:(gQ (if s.a=true then j8 out else out) s.offset s.g).Sublist out:=(CJ).trans (by split;exact pj [] out;exact YR _);exact⟨Wf b.length_le o,λv i=>by rw[n v<|b.subset i];exact t⟩
def Ni(b:ec K)(t:YX):(fx K t).2.rows.length<=15625/\∀r∈(fx K t).2.rows,r.length<=1000:=by
 cases hp:bp t with
 |none=>rw[yg hp];exact⟨qO,by intro r a;cases a⟩
 |some s=>
  rw[yh hp];have hs:=ix hp;have a:∀{o:aI×iW},o.2.rows=[]->o.2.rows.length<=15625/\∀r∈o.2.rows,r.length<=1000:=λh=>by rw[h];simp
  obtain hk|hk|hk|hk|hk:=hs.aC
  .exact a<|xF<|.inl hk
  .exact a<|xF<|.inr hk
  .rw[AL hk];exact a BH
  .rw[AN hk];exact a BI
  rw[AM hk];cases hc:ch K s with
  |error e=>rw[yx hs hk hc];exact a rfl
  |ok rows=>rw[vH hs hk hc];exact Cf b hs hk hc
def ve(X:dD)(b:E6)(a:vS)(c:ec K)(t:YX):Ms K t:=λs hs=>
 ⟨λ_=>b,λhk=>⟨1048576,s.e.length,QD X,qZ,λis rows d=>Wf (uq c (ix hs) hk d)<|by decide,λ_=>a,qZ⟩⟩
def yA{s:aX}(h:aJ D=some (s,E)):s.all=true->s.c=[]:=by
 unfold aJ at h;split at h
 .intro a;unfold dB at h;repeat' split at h
  all_goals (first|cases h)
  all_goals (simp[eM]at a)
 split at h
 .intro a;unfold dP at h;repeat' split at h
  all_goals (first|cases h)
  all_goals (simp[eM]at a)
 split at h
 .intro a;unfold ez at h;repeat' split at h
  all_goals (first|cases h)
  all_goals (simp[eM]at a)
 split at h
 .intro a;unfold eA at h;repeat' split at h
  all_goals (first|cases h)
  all_goals (simp[eM]at a)
 split at h
 .unfold ck at h;cases ht:eZ (gF D.tail)with
  |none=>rw[ht]at h;cases h
  |some z=>
   obtain⟨⟨all,aD⟩,c⟩:=z;rw[ht]at h;obtain⟨a,b⟩:=wP h;rw[a,b];unfold eZ at ht;split at ht
   .cases ht;intro _;rfl
   split at ht
   .cases ht
   cases ht;intro e;cases e
 cases h
def Er{s:aX}(h:bp X=some s):s.all=true->s.c=[]:=by
 unfold bp at h;split at h
 .cases h
 cases hz:aJ (de X)with
 |none=>rw[hz]at h;cases h
 |some z=>
  obtain⟨a,r⟩:=z;rw[hz]at h;simp only[kK]at h;split at h
  .simp at h;subst h;exact yA hz
  cases h
def lF.but{v:Zb}(h:lF w n o v)(b:nu k w W)(d:k<n):lF W n o v:=
 ⟨cN h.1 λj a=>b.block j (by have:=(h.1.lt j a).1;omega),λq c=>cN (h.2 q c) λj a=>b.block j (by have:=((h.2 q c).lt j a).1;omega)⟩
def PN(ht:X.length<=1048576){s:aX}(i:bp X=some s)(r:s.aC=115)(h:jE w G n g K):
 Zc prog 32 #[qP n,qT X] w (H9 w G n<|fi K s):=by
 have M:qB w<|w.alloc rM:=qA;have z:=Z M;have W:=Z h;have V:=Z h.lt;have ab:=h.lt _ h.own;have c:Ze (∀u x y,nu w.heap.size u<|(u.setCell ⟨w.heap.size,0,none⟩ x).setCell ⟨w.heap.size,1,none⟩ y):=λu x y=>((nu.refl _ _).set 0 x).set 1 y;have L:=Z i;have k:=Z<|ix i;have D:=Z<|nH i;have A:=Z<|p9 (db:=K) k r;go_in;go_wp2_with apply(Z<|pQ ⟨X.toArray⟩ (w.alloc rM) ht).mono;rintro e u⟨l,a,rfl,Y⟩;have R:bp (⟨X.toArray⟩:Y9).data.toList=some s:=by simpa using L.o
 rw[R]at Y;obtain⟨rb,ad,p,vi,vs,vk,vw,rfl,ae,t,hi,S,U,O⟩:=Y;have hR:=bB l (by simp)<|aM w rM;have d:=Z<|z.trans<|l.mono z.size;have af:w.heap.size+1<=u.heap.size:=by have:=l.size;simpa using this
 obtain⟨ip,N,hit⟩:=hi.y;obtain⟨sp,T,I⟩:=S.y;obtain⟨kp,P,F⟩:=O.y;have ac:=lB t;have k0:=bC t 0;simp[bQ]at k0;rw[r]at k0;have HR:=Z hR;go_wp2_with refine(Z<|SH s k r D (Z<|Er i) T N P (W.below d) t I hit F<|MT U k.d D.d).mono ?_;rintro e w2⟨E,Q⟩;have b:=bB E (lB hR) HR;have aa:=lB b;have f0:=bF b 0;have f1:=bF b 1;have r0:=bC b 0;have r1:=bC b 1;simp at r0 r1;have B:=Z b;have C:Ze<|ei (w.heap.size+1) u G n K w2 G g:=ei.below (W.below d) E;obtain⟨er,o,rfl⟩|⟨qs,v,o,rfl,j⟩:=Q
 .have q:Ze<|fi K s=(K,di er):=by rw[Ze,A,o]
  go_wp2_with fail;refine Jl B rfl rfl ?_;rw[q];exact⟨_,[],rfl,rfl,lF.nil _ _,G,g,ei.boxed V d C<|c _ _ _⟩
 .have HD:Ze<|fi K s=(K,⟨qs.map (·.1),0,0⟩):=by rw[Ze,A,o]
  obtain⟨ra,rn,rc,rfl⟩:=aF j.1;have J:=Z j;go_wp2_with fail;refine Jl B rfl rfl ?_;rw[HD];have H:=J.but (c w2 (.slice ra rn rc)<|qI 0) (by omega);exact⟨_,qs,rfl,rfl,⟨bU H.1<|by omega,λq R=>bU (H.2 q R)<|by omega⟩,G,g,ei.boxed V d C<|c _ _ _⟩
def RW(t:YX)(d:t.length<=1048576)(h:jE w G n g K):
 Zc prog 32 #[qP n,qT t] w (H9 w G n<|fx K t):=by
 have key:∀{o:aI×iW},o.2.rows=[]->∀e i,zX w G n o e i->H9 w G n o e i:=λl e i k=>⟨_,[],k.1,l,lF.nil _ _,k.2⟩;cases hpp:bp t with
 |none=>
  refine(J_ t d (λs hs=>by rw[hpp]at hs;cases hs) h).mono (key ?_);rw[fx,hpp];rfl
 |some s=>
  have hk:=(ix hpp).aC;have j:fx K t=d_ K s:=by rw[fx,hpp]
  by_cases c:s.aC=99\/s.aC=105
  .refine(J_ t d (λa hs=>by rw[hpp]at hs;cases hs;exact c) h).mono (key ?_);rw[j];exact xF c
  rw[j];unfold d_;rw[VF λe=>c<|.inl e,VF λe=>c<|.inr e];by_cases a:s.aC=100
  .rw[VG a];exact(PM d hpp a h).mono (key BH)
  rw[VF a];by_cases b:s.aC=117
  .rw[VG b];exact(PO d hpp b h).mono (key BI)
  rw[VF b];exact PN d hpp (by omega) h
def ni(B0:Nat)(w0 w:Za)(wb came len:Nat):Prop:=∃jx S psv ps,kN B0 w0 w jx S wb came psv ps/\ps.length=len/\∀(j:Nat)(q:Pr),ps[j]?=some q->q.D=q.E
def kN.P{g:Nat->Int}{a:Nat}{l:List Pr}(h:kN n W w g G j a u l)(H:Y7)(e:∀k,H k->n<=k/\¬Gl k/\u.ownBlock≠some k/\∀(i:Nat)(p:Pr),l[i]?=some p->k≠p.a/\¬p.M k/\¬p.R k):∃b,kN n W w b G j a u l/\∀k,H k->b k=-2:=by
 have q:∀k,Decidable<|H k:=λk=>Classical.propDecidable _;have d:∀k,¬H k->@ite _ (H k) (q k) (-2) (g k)=g k:=λk hk=>VF hk;refine⟨λk=>@ite _ (H k) (q k) (-2)<|g k,⟨h.d,h.g,λk hk=>?_,h.law,h.row,h.each,λk hk=>?_,λk hk=>?_,λk hk=>?_,λi p c=>?_,λi p c k hk=>?_,λi p c k hk=>?_⟩,λk hk=>VG hk⟩
 .simp only[d k (λo=>by have:=(e k o).1;omega)];exact h.l k hk
 .simp only[d k λo=>(e k o).2.1 hk];exact h.a k hk
 .by_cases o:H k
  .exact VG o
  simp only[d k o];exact h.h k hk
 .simp only[d k λo=>(e k o).2.2.1 hk];exact h.j k hk
 .simp only[d _ λo=>((e _ o).2.2.2 i p c).1 rfl];exact h.b i p c
 .simp only[d k λo=>((e k o).2.2.2 i p c).2.1 hk];exact h.c i p c k hk
 simp only[d k λo=>((e k o).2.2.2 i p c).2.2 hk];exact h.e i p c k hk
def kN.stepT{g:Nat->Int}{d:Y7}{c a:Nat}{l:List Pr}(h:kN n W w g G j c u l)(y:∀k,H k->g k=-2)(z:xY x d j a u)(B:pE w (λk=>G k\/H k) x d):∃b,kN n W x b d j a u l:=by obtain⟨b,q,r,t⟩:=Oo B λk hk=>hk.elim (h.h k)<|y k;obtain⟨_,o,E,F,I,J,K,L⟩:=h.rest q t;obtain⟨C,D,e⟩:=L (by omega) (by omega);exact⟨b,C,D,e,z,(o<|by omega).1,λi p A=>K (by omega) (by omega) i p A (by omega)<|by omega,E,r,(o<|by omega).2,F,I,J⟩
def Nh{D:aI}(t:YX)(h:(fx D t).2.err≠0):(fx D t).2.rows=[]:=by
 cases hp:bp t with
 |none=>rw[yg hp];rfl
 |some s=>
  rw[yh hp]at h ⊢;have hs:=ix hp;obtain hk|hk|hk|hk|hk:=hs.aC
  .exact xF<|.inl hk
  .exact xF<|.inr hk
  .rw[AL hk];exact BH
  .rw[AN hk];exact BI
  rw[AM hk]at h ⊢;cases hc:ch D s with
  |error e=>rw[yx hs hk hc];rfl
  |ok rows=>rw[vH hs hk hc]at h;exact absurd rfl h
def rP.l(h:rP w.heap.size W G H N u)(j:∀k,G k->k<w.heap.size)(l:N.length<=15625)(o:∀r∈N,r.length<=1000):∃qs,N=qs.map (·.1)/\JY W u qs/\∀k,HB u qs k->w.heap.size<=k/\k<W.heap.size/\¬H k:=by
 obtain⟨qs,rfl,b,d,i⟩:=h;have a:∀k,HB u qs k->w.heap.size<=k/\k<W.heap.size:=λk hk=>by
  obtain hk|⟨q,c,hk⟩:=hk
  .exact b.lt k hk
  exact(d.1 q c).lt k hk
 refine⟨qs,rfl,⟨bU b qO,d.base qO,⟨λq c=>Wf (o _<|VV.2 ⟨q,c,rfl⟩)<|by decide,by rw[VL]at l;omega⟩⟩,λk hk=>⟨(a k hk).1,(a k hk).2,λn=>?_⟩⟩;obtain rfl|rfl:=i
 ·have:qs=[]:=by
   obtain⟨_,g⟩|⟨_,_,_,e,_⟩:=b.2
   .exact V3.1 g
   cases e
  subst this;exact uT k hk
 have:=j k n;have:=(a k hk).1;omega
def TU(L:lL)(X:dD)(HU:E6)(HO:vS)(t:YX)(ht:t.length<=1048576){jx:Nat->Int}{wb a:Nat}{Y:List Pr}(h:kN n W w jx G wb a u Y){p:Pr}(hp:Y[i]?=some p)(ao:∀(j:Nat)(q:Pr),Y[j]?=some q->q.D=q.E)(hc:a<=1100000):
 Zc prog 55 #[qP wb,qP p.a,qT t] w λe w'=>e=.returned (.bool true)/\ni n W w' wb (a+1) Y.length:=by
 have hP:=h.each i p hp;have an:=hP.box;have bl:=lB an;have b0:=bC an 0;simp at b0;have hD:=hP.live.ex.a.ok;have aH:=Z<|Ng L X hP.live ht<|ve X HU HO hD t;obtain⟨a6,a7⟩:=Ni hD t;have a5:=Nh (D:=p.D) t;have HP:=Z hP;have HX:=Z h;have HEq:=Z ao;have aJ:Ze<|p.D=p.E:=ao i p hp;have o:=Z hp;generalize ar:fx p.D t=out at*;have af:=Z ar;have K:=Z a6;have aa:=Z a7;have aG:=Z a5;go_in;go_wp2_with refine aH.mono ?_;rintro e I⟨rv,M1,H,rfl,z,aq⟩;obtain⟨qs,az,O,hH⟩:=aq.l (HP.lt.2.1) K aa;have ax:qs.length=out.2.rows.length:=by rw[az,VL]
 obtain⟨ra,rc,rfl⟩:=bN O.own;rw[ax]at O hH aq ⊢;have aA:pE w p.M I M1:=⟨z.aL,z.new⟩;obtain⟨bc,(aP:Ze _)⟩:=HX.q o aA<|HP.live.step z;have a8:(Y.set i ⟨p.a,p.b,p.c,M1,p.R,H,p.d,out.1,p.E⟩)[i]?=some ⟨p.a,p.b,p.c,M1,p.R,H,p.d,out.1,p.E⟩:=by rw[Wq,VG rfl,VG<|bw o]
 have aB:w.heap.size<=I.heap.size:=z.aL.size;have l:=Z a8;have ab:=Z O;have HH:=Z hH;have aL:=Z az;have aK:=Z ax;generalize a_:out.2.rows.length=c at*;have M:=Z a_;go_upto_region 2 with fail
 have am:qB I<|I.alloc<|.cells #[.slice ra c rc,qI out.2.count] 36:=qA;have hA:=aM I<|.cells #[.slice ra c rc,qI out.2.count] 36;generalize I.alloc (.cells #[.slice ra c rc,qI out.2.count] 36)=w2 at*;have al:=aP.below am;have Q:=al.each i _ l;have aY:=ab.aL (w':=w2) λk hk=>am.block k<|ab.lt hk;have d:Ze (∀k,p.R k->k<w.heap.size):=HP.lt.2.2;have bk:w.heap.size<=I.heap.size:=aB;generalize I.heap.size=A at*;have aV:=lB hA;have c1:=bC Q.box 1;simp at c1;have a2:=lB Q.box;have HA:=Z hA;have aQ:=Z al;have ac:=Z aY;have ag:=Z<|RW t ht Q.ref;rw[<-aJ,af]at ag;simp only at a2;go_wp2_with refine ag.mono ?_;rintro e J⟨bu,bb,rfl,aw,P,R3,bh,g⟩;obtain⟨sa,sc,rfl⟩:=bN P.1;have F:pE w2 p.R J R3:=⟨g.aL,g.new⟩;obtain⟨bd,(aR:Ze _)⟩:=aQ.y l F g.a;have aU:J.heap[A]?=_:=(g.aL.block A ⟨aV,λb=>by have:=d.o A b;omega⟩).trans HA;have aZ:=ac.aL (w':=J) λk hk=>g.aL.block k ⟨ac.lt hk,λb=>by have:=d.o k b;have:=(HH k hk).1;omega⟩;have ay:bb.length=c:=by have:=Wd List.length aw;rw[VL,M]at this;exact this.symm
 have aN:Ze (∀k,R3 k->p.R k\/A<=k):=λk hk=>(F.new k hk).imp id (λh=>by omega);rw[ay]at P ⊢;have E:=P.c;rw[<-aw]at E;have aC:=Z aU;have ad:=Z aZ;have aI:=Z E;go_upto_region 3 with fail
 have R:qB J<|J.alloc<|.cells #[.slice sa c sc,qI out.2.count] 36:=qA;have N:=aM J<|.cells #[.slice sa c sc,qI out.2.count] 36;have x:=bA aC<|.cells #[.slice sa c sc,qI out.2.count] 36;generalize J.alloc (.cells #[.slice sa c sc,qI out.2.count] 36)=w4 at*;have ak:=ad.aL (w':=w4) λk hk=>R.block k<|ad.lt hk;have ap:=ak.c;rw[<-aL]at ap;have aO:=Z<|Ux out.2.count ap (aI.below R) (by have:=K.o;rw[M];omega) λr b=>Wf (aa r b) (by decide);generalize J.heap.size=B at*;have bg:=lB N;have bi:=bC x 0;have bj:=bC x 1;have e0:=bC N 0;have e1:=bC N 1;simp at bi bj e0 e1;have aD:=Z x;have aS:=Z<|aR.below R;have ae:=Z ak;go_wp2_with fail;apply qR aO;intro w5 S;have y:=aS.below S;have a0:=ae.aL (w':=w5) λk hk=>S.block k<|ae.lt hk;have aj:=bB S (lB x) aD;have g0:=bC aj 0;simp at g0;have bf:=lB aj
 obtain ⟨be,y,(aE:Ze _)⟩:=y.P (HB (.slice ra c rc) qs) (λk hk=>by
  have bo:=(HH k hk).1;have bp:=(HH k hk).2.1;have hX:=HX.o;refine⟨by have:=hX.g;omega,λhg=>by have:=(hX.a k hg).2;omega,λe=>by have:=(hX.row.lt k e).2;omega,λj q hq=>?_⟩;obtain⟨rfl,rfl⟩|⟨hj,T⟩:=mF l.o hq
  .exact⟨λe=>by have:=HP.lt.1;have e':k=p.a:=e;omega,(HH k hk).2.2,λb=>(aN k b).elim (λb=>by have:=d.o k b;omega) λb=>by omega⟩
  .obtain⟨rfl,rfl⟩|⟨_,U⟩:=mF o.o T
   .exact absurd rfl hj
   .have hl:=(hX.each j q U).lt
    exact⟨λe=>by have:=hl.1;omega,λhm=>by have:=hl.2.1 k hm;omega,λb=>by have:=hl.2.2 k b;omega⟩)
 obtain⟨F5,br,bz,bv,bs,bt,bx,n5,m5,aW⟩:=y.law;have ah:=Z<|SQ aW hc a0 (by have:=K.o;have:=aK.o;omega) (λk hk hs=>by have:=HX.law.lt hs;have:=(HH k hk).1;omega);have aT:=Z y;have C:Ze (∀V,DQ w5 (λk=>G k\/HB (.slice ra c rc) qs k) wb a u (.returned<|.tuple #[]) V->ni n W V wb (a+1) Y.length):=λV ⟨_,S6,aX,ba⟩=>by
  obtain⟨ai,a1⟩:=aT.stepT aE aX ba;refine⟨ai,S6,u,_,a1,by simp,λj q hq=>?_⟩;obtain⟨rfl,rfl⟩|⟨hj,T⟩:=mF l.o hq
  .rfl
  obtain⟨rfl,rfl⟩|⟨_,U⟩:=mF o.o T
  .exact absurd rfl hj
  exact HEq j q U
 by_cases h0:out.2.err=0
 .have bm:((out.2.err:Int) != 0)=false:=by rw[h0];rfl
  go_wp2_with refine ah.mono ?_;intro e V au;have a3:=au.1;subst a3;have aF:=Z<|C V au;go_wp2;go_ret;exact⟨rfl,aF⟩
 .have bn:((out.2.err:Int) != 0)=true:=by simp;omega
  have a9:c=0:=by rw[<-M,aG h0];rfl
  have bq:¬(c:Int) > 0:=by omega
  clear h0 a9;go_wp2_with refine ah.mono ?_;intro e V av;have a4:=av.1;subst a4;go_wp2;go_ret;exact⟨rfl,Z<|C V av⟩
def kN.push{J:Nat->Int}{b:Nat}{l:List Pr}(h:kN n x w J G i b u l){D c:Za}{p:Pr}(I:qB w D)(hp:Rq D p)(r:∀k,p.M k\/p.R k\/k=p.a->w.heap.size<=k)(P:∀k,p.R k->¬p.M k)(T:¬p.M p.a/\¬p.R p.a)
 (S:c.ownsRow 0 71 1 z (l.length+1)<|l.map pR++[pR p])(o:D.grownBy c u.ownBlock)(ho:z.ownBlock=u.ownBlock\/z.ownBlock=some D.heap.size):
 (∃kv wv vs,c.heap[i]?=some (lp b kv wv u vs))/\∃K,kN n x (c.setCell ⟨i,4,none⟩ z) K G i b z<|l++[p]:=by
 have hz:=o.size;have ag:=I.size;obtain⟨p1,p2,p3⟩:=hp.lt;have Q:∀k,k<w.heap.size->u.ownBlock≠some k->c.heap[k]?=w.heap[k]?:=λk hk ac=>(o.block k (by omega) λe=>ac e.symm).trans<|I.block k hk;have R:∀k,w.heap.size<=k->k<D.heap.size->c.heap[k]?=D.heap[k]?:=λk Z L=>o.block k L (λe=>by have:=(h.row.lt k e.symm).2;omega);have B:∀k,J k≠-3->u.ownBlock≠some k:=λk hk e=>hk<|h.j k e;obtain⟨ab,ai,ak,aj,F,_⟩:=h.law.box;have ae:=lB F;have C:J i=-2:=h.h i ab;have aa:xY c G i b u:=h.law.aL (by omega) λk hk=>Q k (h.law.lt hk)<|B k (by rw[h.h k hk];omega);obtain⟨_,V,Y,X,N,U⟩:=aa.box;have d:nu i c<|c.setCell ⟨i,4,none⟩ z:=(nu.refl _ _).set 4 z;have O:(c.setCell ⟨i,4,none⟩ z).heap[i]?=some (lp b V Y z X):=by have:=bS N 4 z;simpa using this
 have ah:(c.setCell ⟨i,4,none⟩ z).heap.size=c.heap.size:=size_set _ _ _;have y:∀k,k<w.heap.size->J k≠-3->J k≠-2->(c.setCell ⟨i,4,none⟩ z).heap[k]?=w.heap[k]?:=λk Z L h3=>by rw[d.block k λe=>h3<|e▸C];exact Q k Z<|B k L
 have H:∀k,w.heap.size<=k->k<D.heap.size->(c.setCell ⟨i,4,none⟩ z).heap[k]?=D.heap[k]?:=λk Z L=>by rw[d.block k<|by omega];exact R k Z L
 have M:∀k,Gl k->(c.setCell ⟨i,4,none⟩ z).heap[k]?=w.heap[k]?:=λk hk=>y k (h.a k hk).2 (by rw[(h.a k hk).1];omega) (by rw[(h.a k hk).1];omega);generalize af:c.setCell ⟨i,4,none⟩ z=W at*
 have ad:W.ownsRow 0 71 1 z (l.length+1)<|l.map pR++[pR p]:=cN S (λk hk=>d.block k (λe=>by
  obtain E|E:=ho
  .rw[E]at hk;have:=h.j k hk;rw[e,C]at this;omega
  .rw[E]at hk;cases hk;omega))
 have A:∀(j:Nat) (q:Pr),(l++[p])[j]?=some q->(j<l.length/\l[j]?=some q)\/(j=l.length/\q=p):=λj q t=>by
  by_cases g:j<l.length
  .rw[VU g]at t;exact .inl ⟨g,t⟩
  have a:j=l.length:=by have:=bw t;simp at this;omega
  subst a;simp at t;exact .inr ⟨rfl,t.symm⟩
 have iM:∀k,Decidable<|p.M k:=λk=>Classical.propDecidable _;have iR:∀k,Decidable<|p.R k:=λk=>Classical.propDecidable _;refine⟨⟨V,Y,X,N⟩,λk=>if k<w.heap.size then J k else @ite _ (p.M k) (iM k) (2*(l.length:Int)) (@ite _ (p.R k) (iR k) (2*(l.length:Int)+1) (if k=p.a then -4 else -3)),?_,?_,?_,U _ z d O,?_,?_,?_,?_,?_,?_,?_,?_⟩
 .have a:W.os=w.os/\W.tape=w.tape/\W.output=w.output:=⟨d.os.trans<|o.os.trans I.os,d.tape.trans<|o.tape.trans I.tape,d.output.trans<|o.output.trans I.output⟩;refine⟨a.1.trans h.d.os,a.2.1.trans h.d.tape,a.2.2.trans h.d.output,by have:=h.d.size;omega,λk hk=>?_⟩;exact(y k (VT hk h.g) (by obtain e|e:=h.l k hk<;>rw[e]<;>omega) (by obtain e|e:=h.l k hk<;>rw[e]<;>omega)).trans (h.d.block k hk)
 .have:=h.g;omega
 .intro k hk;show(if k<w.heap.size then _ else _)=_\/(if k<w.heap.size then _ else _)=_;rw[VG<|VT hk h.g];exact h.l k hk
 .simpa using ad
 .intro j q t;obtain⟨hj,g⟩|⟨rfl,rfl⟩:=A j q t
  .have hP:=h.each j q g;refine hP.aL (by omega) λk a=>?_;obtain a|a|a|rfl:=a
   .exact y k (hP.lt.2.1 k a) (by rw[h.c j q g k a];omega) (by rw[h.c j q g k a];omega)
   .exact y k (hP.lt.2.2 k a) (by rw[h.e j q g k a];omega) (by rw[h.e j q g k a];omega)
   .exact M k a
   exact y _ hP.lt.1 (by rw[h.b j q g];omega) (by rw[h.b j q g];omega)
  refine hp.aL (by omega) λk a=>?_;obtain a|a|a|rfl:=a
  .exact H k (r k<|.inl a)<|p2 k a
  .exact H k (r k<|.inr<|.inl a)<|p3 k a
  .exact(M k a).trans (I.block k (h.a k a).2).symm
  exact H _ (r _<|.inr<|.inr rfl) p1
 .intro k hk;show(if k<w.heap.size then _ else _)=_/\_;rw[VG (h.a k hk).2];exact⟨(h.a k hk).1,by have:=(h.a k hk).2;omega⟩
 .intro k hk;show(if k<w.heap.size then _ else _)=_;rw[VG<|h.law.lt hk];exact h.h k hk
 .intro k hk;show(if k<w.heap.size then _ else _)=_;obtain E|E:=ho
  .rw[E]at hk;rw[VG (h.row.lt k hk).2];exact h.j k hk
  rw[E]at hk;cases hk;rw[VF<|by omega,VF (λe=>by have:=p2 _ e;omega),VF (λe=>by have:=p3 _ e;omega),VF<|by omega]
 .intro j q t;show(if q.a<w.heap.size then _ else _)=_;obtain⟨g,a⟩|⟨rfl,rfl⟩:=A j q t
  .rw[VG (h.each j q a).lt.1];exact h.b j q a
  rw[VF (by have:=r _<|.inr<|.inr rfl;omega),VF T.1,VF T.2,VG rfl]
 .intro j q t k hk;show(if k<w.heap.size then _ else _)=_;obtain⟨g,a⟩|⟨rfl,rfl⟩:=A j q t
  .rw[VG<|(h.each j q a).lt.2.1 k hk];exact h.c j q a k hk
  rw[VF (by have:=r k<|.inl hk;omega),VG hk]
 .intro j q t k hk;show(if k<w.heap.size then _ else _)=_;obtain⟨g,a⟩|⟨rfl,rfl⟩:=A j q t
  .rw[VG<|(h.each j q a).lt.2.2 k hk];exact h.e j q a k hk
  rw[VF (by have:=r k<|.inr<|.inl hk;omega),VF<|P k hk,VG hk]
def Jb{N:Za}{jx:Nat->Int}{d:List Pr}(h:kN n N w jx G i j z d)(hg:rh w)(H:kM w)(hl:d.length<=100000000):
 Zc prog 31 #[.pointer<|some ⟨i,0,none⟩] w λe w'=>e=.returned (.bool true)/\∃a c s,kN n N w' a G i j c<|d++[sQ s]:=by
 obtain⟨L,M,rfl,_⟩:=cz h.row;have HX:=Z h;obtain⟨_,ab,af,ad,q,_⟩:=h.law.box;have y:=bA q Io;have aa:=lB y;have A:=bC y 4;simp at A;obtain⟨i0,hi,I,J,K⟩:=V5 Nw;have g:Ze (∀o r t,r.ownsRow 0 71 1 t (d.length+1) (d.map pR++[.pointer<|some ⟨w.heap.size+2,0,none⟩])->((((w.alloc Io).alloc GF).alloc<|BB w.heap.size<|w.heap.size+1).alloc o).grownBy r (Zb.ownBlock<|.slice L d.length M)->(t.ownBlock=Zb.ownBlock (.slice L d.length M)\/t.ownBlock=some (w.heap.size+4))->(∃kv wv vs,r.heap[i]?=some (lp j kv wv (.slice L d.length M) vs))/\∃a c s,kN n N (r.setCell ⟨i,4,none⟩ t) a G i j c<|d++[sQ s]):=λo r t T V X=>by have B:∀(x:Obj) (W:Za),qB W<|W.alloc x:=λx W=>qA;have O:=B Io w;have P:=B GF<|w.alloc Io;have D:=B (BB w.heap.size<|w.heap.size+1)<|(w.alloc Io).alloc GF;have u:=B o<|((w.alloc Io).alloc GF).alloc<|BB w.heap.size<|w.heap.size+1;have l1:=((((Live.new hg).below P).below D).below u);have S:=((jE.new<|w.alloc Io).below D).below u;have Q:=bB u (by simp)<|aM ((w.alloc Io).alloc GF)<|BB w.heap.size<|w.heap.size+1;simp only[v_]at S Q;have A:=O.trans<|((P.trans<|(D.trans<|u.mono<|by simp).mono<|by simp)).mono (by simp);obtain⟨hb,a,Y⟩:=h.push (p:=sQ w.heap.size) A ⟨Q,l1,(Pb.new H).c λk hk=>A.block k (h.a k hk).2 |>.trans (O.block k (h.a k hk).2).symm,S⟩ (λk hk=>by obtain e|e|e:=hk<;>cases e<;>simp[sQ]) (λk hk e=>by have e1:k=w.heap.size+1:=hk;have R:k=w.heap.size:=e;omega) ⟨(λe=>by have R:w.heap.size+2=w.heap.size:=e;omega),(λe=>by have R:w.heap.size+2=w.heap.size+1:=e;omega)⟩ T V (by simpa using X);exact⟨hb,a,t,_,Y⟩
 go_in;go_wp2_with fail;apply(U<|Z<|Vf w).mono;rintro e w1⟨rfl,rfl⟩;go_wp2_with (at_builtin;refine Wv _ rfl (.tmp 9) (.tmp 15) 64 rfl 0 71 i0 _ 1 8 underlying64 hi I J K rfl (by decide) _ _ _ rfl ((U<|Z<|((h.row.alloc Io).alloc GF).alloc<|BB w.heap.size<|w.heap.size+1).alloc _) ⟨_,0,none⟩ 1 1 [.pointer<|some ⟨w.heap.size+2,0,none⟩] rfl rfl ?c1 ?c2 ?c3 ?c4 ?c5 ?_)
 case c1=>
  have:=cW (((w.alloc Io).alloc GF).alloc<|BB w.heap.size<|w.heap.size+1) [.pointer<|some ⟨w.heap.size+2,0,none⟩] 71;simp only[v_]at this;exact this
 case c2=>intro u k;simp at k;subst k;rfl
 case c3=>unfold Zj;omega
 case c4=>omega
 case c5=>exact Wi _
 intro v5 r b E _ F;obtain⟨⟨ac,ag,ae,l⟩,(C:Ze _)⟩:=g.o _ r v5 b E (by simpa using F);have y4:=bC l 4;have yf:=bF l 4;have yz:=lB l;simp at y4;obtain⟨xa,xn,xc,rfl⟩:=aF b;go_wp2_with fail;go_ret;exact⟨rfl,C.o⟩
def Sz{A:Nat->Int}{a:List Pr}(h:kN n W w A G k i u a)(g:∀(j:Nat)(q:Pr),a[j]?=some q->q.D=q.E)(x:rh w)(o:kM w)(z:a.length<=100000000):
 Zc prog 31 #[qP k] w λe p=>e=.returned (.bool true)/\ni n W p k i (a.length+1):=by
 apply(Jb h x o z).mono;rintro e p⟨t,b,d,s,r⟩;refine⟨t,b,G,d,_,r,by simp,λj q c=>?_⟩;by_cases y:j<a.length
 .rw[VU y]at c;exact g j q c
 .have l:j=a.length:=by have:=bw c;simp at this;omega
  subst l;simp at c;subst c;rfl
