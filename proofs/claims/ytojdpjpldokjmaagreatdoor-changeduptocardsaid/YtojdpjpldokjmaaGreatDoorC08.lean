import Derived.Test.YtojdpjpldokjmaaGreatDoorC07
set_option maxHeartbeats 0
set_option maxRecDepth 100000
set_option linter.all false
namespace Go.Proofs.YtojdpjpldokjmaaGreatDoor
open Go.Deep Go.RowKit Tryz
open Go renaming World->Za,Value->Zb,Calls->Zc,results->Zh,maxLen->Zj
open RowKit renaming Hid->Ze
variable{W w x:World}{G:Y7}{i j k n:Nat}{F:YY}{u z:Value}{M a:Int}{R S:aA}
def lS(c:ah):Y0:=[qT c.src,qT c.name,qI c.type]
def lR(code:List cQ):Y0:=code.flatMap rK
def C2(a:List cQ):(lR a).length=a.length*5:=by
 induction a with
 |nil=>rfl
 |cons c cs ih=>
  show(rK c++lR cs).length=_;rw[VH,ih];simp[rK];omega
def x9(a b:List cQ):lR (a++b)=lR a++lR b:=by simp[lR]
def C3(c:cQ):lR [c]=rK c:=by simp[lR]
def i4(w:Za):Prop:=∀op:Nat,2<=op->op<=18->w.cell? ⟨9,op*3,none⟩=some (qI ((op+2:Nat):Int))/\w.cell? ⟨9,op*3+1,none⟩=some (qI<|cD op)/\w.cell? ⟨9,op*3+2,none⟩=some (qI<|eR op)
def i4.aL{w':Za}(h:i4 w)(b:w'.heap[9]?=w.heap[9]?):i4 w':=by intro op c a;have:=h op c a;exact⟨(VK b).trans this.1,(VK b).trans this.2.1,(VK b).trans this.2.2⟩
structure KP(P:Y7)(w w':Za):Prop where
 os:w'.os=w.os
 tape:w'.tape=w.tape
 output:w'.output=w.output
 size:w.heap.size<=w'.heap.size
 block:∀k,P k->w'.heap[k]?=w.heap[k]?
def KP.refl(P:Y7)(w:Za):KP P w w:=⟨rfl,rfl,rfl,qZ,λ_ _=>rfl⟩
def KP.trans{P:Y7}(h:KP P w W)(k:KP P W x):KP P w x:=
 ⟨k.os.trans h.os,k.tape.trans h.tape,k.output.trans h.output,Wf h.size k.size,λi hi=>(k.block i hi).trans<|h.block i hi⟩
def KP.mono{P:Y7}(h:KP P w W)(a:∀k,G k->P k):KP G w W:=⟨h.os,h.tape,h.output,h.size,λk hk=>h.block k<|a k hk⟩
def KP.below{P:Y7}(h:qB w W)(a:∀k,P k->k<w.heap.size):KP P w W:=⟨h.os,h.tape,h.output,h.size,λk hk=>h.block k<|a k hk⟩
def KP.set{P:Y7}(h:KP P w W){p:Addr}(a:¬P p.block)(v:Zb):KP P w<|W.setCell p v:=
 ⟨h.os,h.tape,h.output,by rw[size_set];exact h.size,λk hk=>(VN _ _ _ _ λe=>a<|e▸hk).trans<|h.block k hk⟩
def KP.g{P:Y7}(h:KP P w W){o:Obj}(b:P k)(a:w.heap[k]?=some o):W.heap[k]?=some o:=(h.block k b).trans a
def Vy(P:Y7)(a b:Nat):Nat->Prop:=λk=>P k\/(a<=k/\k<b)
def jM(w:Za)(cb:Nat)(P:Y7)(ab:YY)(code:List cQ):Prop:=(∀k,P k->k<w.heap.size/\k≠cb)/\(∀k,k<cb->P k)/\code.length<=1048576/\9<cb/\i4 w /\
 ∃cv v,w.heap[cb]?=some (.cells #[cv,v] 362)/\br w cb 3 lS ab cv/\w.ownsRow (cb+1) 335 5 v code.length (lR code)/\∀k,v.ownBlock=some k->¬P k
def jM.lt{P:Y7}{a:List cQ}(h:jM w n P F a):n<w.heap.size:=by obtain⟨_,_,_,_,_,cv,v,b,_⟩:=h;exact lB b
def jM.below{P:Y7}{a:List cQ}(h:jM w n P F a)(b:qB w W):jM W n (Vy P w.heap.size W.heap.size) F a:=by
 have j:=h.lt;obtain⟨r,t,u,o,l,cv,v,x,z,e,y⟩:=h;refine⟨λk hk=>?_,λk hk=>.inl<|t k hk,u,o,l.aL<|b.block _<|by omega,cv,v,bB b j x,z.aL λk hk=>b.block k<|by omega,⟨e.1,?_⟩,λk hk c=>?_⟩
 .obtain hk|⟨g,hk⟩:=hk
  .have d:=r k hk;have:=b.size;exact⟨by omega,d.2⟩
  exact⟨hk,by omega⟩
 .obtain q|⟨g,cap,d,rfl,i,p,l⟩:=e.2
  .exact .inl q
  exact .inr ⟨g,cap,d,rfl,i,bB b (lB p) p,l⟩
 obtain c|⟨c,_⟩:=c
 .exact y k hk c
 have:=(e.lt k hk).2;omega
def jM.less{P:Y7}{a:List cQ}(h:jM w n P F a)(d:∀k,G k->P k)(o:∀k,k<n->G k):jM w n G F a:=by obtain⟨e,r,g,c,q,cv,v,i,b,j,l⟩:=h;exact⟨λk hk=>e k<|d k hk,o,g,c,q,cv,v,i,b,j,λk hk p=>l k hk<|d k p⟩
def jM.back{P:Y7}{a:List cQ}(h:jM w n (Vy P i j) F a)(b:∀k,k<n->P k):jM w n P F a:=h.less (λk hk=>.inl hk) b
def PT:(prog.info? 335).map (λi=>(i.zero,i.size,i.bytes))=some (some<|.agg #[qI 0,qI 0,qI 0,.string ⟨#[]⟩,qI 0],5,48):=by kernel_rfl
def kE{P:Program}{q:Array Oper}{o:Oper}{a:Act}{K:Act->Za->Prop}{Q:Exit->Act->Za->Prop}{E:Prop}
 (V:o.guard=none)(s x:Operand){t:TypeId}(D:o.op=Op.call {callee:=Callee.builtin Builtin.append,args:=#[s,x],argTypes:=#[t,t]})
 {h:Nat}{e:TypeId}(i:TypeInfo){z:Zb}{b g:Nat}(I:P.underlying t=some (.slice e))(J:P.info? e=some i)(L:i.zero=some z)(M:i.size=b)(N:i.bytes=g)(O:z.cells.size=b)(R:0<b)
 {v:Zb}{n:Nat}{F:Y0}(X:a.eval s=v)(l:w.ownsRow h e b v n F)
 (B:Addr)(m c:Nat)(d:Y0)(Z:a.eval x=.slice (some B) m c)(W:d.length=m*b)(U:∀j u,d[j]?=some u->w.cell? (B.add j)=some u)(C:∀u∈d,u.oneCell'=true)
 (G:n+m<=Zj)(H:(n+m)*g<=140737488355328)(T:h<=w.heap.size)
 (S:∀y A,A.ownsRow h e b y (n+m) (F++d)->w.grownBy A v.ownBlock->(∀k,y.ownBlock=some k->v.ownBlock=some k\/w.heap.size<=k)->K (a.put o.dst y) A):
 if Region.wanted o (yielded q a.tmps)=true then Oper.wp P o a w K Q else E:=by
 have Y:Region.wanted o (yielded q a.tmps)=true:=by simp[Region.wanted,V]
 rw[VG Y];obtain⟨y,A,p,r1,r2,_,r⟩:=run_append_own_at (P:=P) w h t o.type e i z b g I J L M N O R v n F l B m c d W U C G H T;unfold Oper.wp;simp[execOp,D,resolve,invoke,builtin,X,Z,p,Result.andThen];refine S y A r1 r2 λk hk=>?_;obtain r|r:=r
 .exact .inl<|r▸hk
 .rw[r]at hk;cases hk;exact .inr qZ
def M0{w1 w2:Za}{P:Y7}{v':Zb}{c:cQ}{a:List cQ}(l:∀k,P k->k<w.heap.size/\k≠n)(y:∀k,k<n->P k)(H:a.length+1<=1048576)(x: 9<n)(I:i4 w)(p:w.heap[n]?=some (.cells #[u,z] 362))
 (B:br w n 3 lS F u)(t:w.ownsRow (n+1) 335 5 z a.length<|lR a)(G:∀k,z.ownBlock=some k->¬P k)(b:qB w w1)(j:w2.ownsRow (n+1) 335 5 v' (a.length+1)<|lR a++rK c)(q:w1.grownBy w2 z.ownBlock)(C:∀k,v'.ownBlock=some k->z.ownBlock=some k\/w1.heap.size<=k):
 w2.heap[n]?=some (.cells #[u,z] 362)/\jM (w2.setCell ⟨n,1,none⟩ v') n P F (a++[c])/\KP P w (w2.setCell ⟨n,1,none⟩ v'):=by
 have r:=lB p;have K:=b.size;have J:=q.size;have E:∀k,z.ownBlock=some k->n+1<=k:=λk b=>(t.lt k b).1;have d:∀k,k<w.heap.size->z.ownBlock≠some k->w2.heap[k]?=w.heap[k]?:=λk r D=>by rw[q.block k (by omega) λe=>D e.symm];exact b.block k<|by omega
 have o:w2.heap[n]?=some (.cells #[u,z] 362):=by rw[d n r (λe=>by have:=E n e;omega)];exact p
 have A:KP P w w2:=⟨q.os.trans b.os,q.tape.trans b.tape,q.output.trans b.output,by omega,λk i=>d k (l k i).1 λe=>G k e i⟩;have g:KP P w<|w2.setCell ⟨n,1,none⟩ v':=A.set (λi=>(l n i).2 rfl) v';refine⟨o,⟨λk i=>⟨by have:=(l k i).1;rw[size_set];omega,(l k i).2⟩,y,by simpa using H,x,I.aL<|g.block _<|y _ x,u,v',by rw[bS o];rfl,B.aL λk b=>g.block k<|y k b,?_,λk b i=>?_⟩,g⟩
 .rw[x9,C3,VH];exact dM ((aH.refl n w2).set 1 v') (WC _) j
 .obtain h|h:=C k b
  .exact G k h i
  have:=(l k i).1;omega
def IK(c:cQ):Zb:=.agg #[qI c.aC,qI c.v.aC,qI c.v.n,qT c.v.s,qI c.place]
def J9(c:cQ){a:List cQ}{P:Y7}(h:jM w n P F a)(W:a.length+1<=1048576):Zc prog 285 #[qP n,IK c] w λe E=>e=.returned (.tuple #[])/\jM E n P F (a++[c])/\KP P w E:=by
 obtain⟨T,U,h3,z,Y,cv,sv,p,x,t,A⟩:=h;obtain⟨i0,hi,B,C,D⟩:=V5 PT;have X:=lB p;have b1:=bC p;have hf:=bF p 1;have Q:=Z λw1 w2 J hk i V y=>M0 (w1:=w1) (w2:=w2) (v':=J) (c:=c) T U W z Y p x t A hk i V y;obtain⟨sa,sn,sc,rfl⟩:=aF t;have K:=Z t;generalize H:Obj.cells #[qI c.aC,qI c.v.aC,qI c.v.n,qT c.v.s,qI c.place] 335=O;have M:Ze (∀j u,(rK c)[j]?=some u->((w.alloc O).alloc O).drew.cell? ((⟨w.heap.size+1,0,none⟩:Addr).add j)=some u):=by subst H;have:=cW (w.alloc<|.cells #[qI c.aC,qI c.v.aC,qI c.v.n,qT c.v.s,qI c.place] 335) (rK c) 335;simp only[Za.alloc,X7]at this ⊢;exact this
 have N:Ze (∀u∈rK c,u.oneCell'=true):=by intro u I;simp[rK]at I;obtain rfl|rfl|rfl|rfl|rfl:=I<;>rfl
 have L:Ze<|a.length+1<=Zj:=by unfold Ze Zj;omega
 have R:Ze<|(a.length+1)*48<=140737488355328:=by unfold Ze;omega
 have S:Ze<|n+1<=((w.alloc O).alloc O).drew.heap.size:=by unfold Ze;simp[Za.drew];omega
 have HB:Ze<|qB w ((w.alloc O).alloc O).drew:=(((VM w.heap.size w).alloc qZ _).alloc (by simp) _).drew;subst H;unfold IK;go_in;go_wp2
 go_region_law (refine kE rfl (.tmp 8) (.tmp 10) rfl i0 underlying202 hi B C D rfl (by decide) rfl ((K.alloc _).alloc _) ⟨w.heap.size+1,0,none⟩ 1 1 (rK c) rfl rfl M N L R S ?_;intro J E b k d;obtain⟨g',G,rfl⟩:=pP b;obtain⟨g,o,l⟩:=Q.o _ _ _ HB b k d;have c2:=bC g 1;simp at c2;have f2:=bF g 1;have r:=Z o;have q:=Z l;clear o l g b k d)
 all_goals go_wp2_with fail
 all_goals
  refine WL (v:=.tuple #[]) (by simp[Zh,results285,go_sem]) rfl ?_;exact⟨rfl,r,q⟩
def MK(a b:Int)(w:Za):Zc prog 217 #[qI a,qI b] w<|qE (.bool<|dt a b) w:=by
 unfold dt;cases h1:a==b<;>cases h2:a==0<;>cases h3:b==0;all_goals
  go_in;go_wp2
 all_goals exact VI (by simp[Zh,results217,go_sem]) rfl ⟨rfl,rfl⟩
def ou:aV Int->Zb
 |.ok t=>.tuple #[qI t,qI 0]
 |.error e=>.tuple #[qI 0,qI (e:Nat)]
def vf(op:Nat)(a b:Int):List cQ:=match fm op a b with
 |.ok _=>[⟨op+2,aE,0⟩]
 |.error _=>[]
def D2(d:Nat)(a b:Int)(q:2<=d)(A:d<=18){c:List cQ}{P:Y7}(h:jM w n P F c)(H:c.length+1<=1048576):
 Zc prog 318 #[qP n,qI (d:Int),qI a,qI b] w λe u=>e=.returned (ou<|fm d a b)/\jM u n P F (c++vf d a b)/\KP P w u:=by
 have t:=Z h;have x:=Z λu Q (k:jM u n Q F c)=>J9 ⟨d+2,aE,0⟩ k H;obtain⟨K,L,M⟩:=h.2.2.2.2.1 d q A;have G:=h.lt;have J: 9<w.heap.size:=by have:=h.2.2.2.1;omega
 have C:=Z h.1;have r:=Z MK;have hs:d<19:=by omega
 have i:(dt a (cD d)&&dt b (cD d)&&dt a b)=false->ou (fm d a b)=.tuple #[qI 0,qI 3]/\c++vf d a b=c:=by intro j;rw[vf,fm,j];simp[ou]
 have l:(dt a (cD d)&&dt b (cD d)&&dt a b)=true->ou (fm d a b)=.tuple #[qI<|eR d,qI 0]/\c++vf d a b=c++[⟨d+2,aE,0⟩]:=by intro j;rw[vf,fm,j];simp[ou]
 have g:Ze (∀o:Obj,jM (w.alloc o) n P F c/\KP P w (w.alloc o)):=λo=>⟨(t.below<|(VM w.heap.size w).alloc qZ _).back t.2.1,KP.below ((VM w.heap.size w).alloc qZ _) λk hk=>(C k hk).1⟩;generalize ou (fm d a b)=out at*;generalize c++vf d a b=z at*;cases h1:dt a (cD d)with
 |false=>
  obtain⟨rfl,rfl⟩:=i (by rw[h1];rfl);go_in;go_wp2_with (go_at_call 217;apply(r _ _ _).mono;rintro e j⟨rfl,rfl⟩);all_goals exact VI (by simp[Zh,results318,go_sem]) rfl ⟨rfl,g _⟩
 |true=>
  cases q:dt b (cD d)with
  |false=>
   obtain⟨rfl,rfl⟩:=i (by rw[h1,q];rfl);go_in;go_wp2_with (go_at_call 217;apply(r _ _ _).mono;rintro e j⟨rfl,rfl⟩);all_goals exact VI (by simp[Zh,results318,go_sem]) rfl ⟨rfl,g _⟩
  |true=>
   cases h3:dt a b with
   |false=>
    obtain⟨rfl,rfl⟩:=i (by rw[h1,q,h3];rfl);go_in;go_wp2_with (go_at_call 217;apply(r _ _ _).mono;rintro e j⟨rfl,rfl⟩);all_goals exact VI (by simp[Zh,results318,go_sem]) rfl ⟨rfl,g _⟩
   |true=>
    obtain⟨rfl,rfl⟩:=l (by rw[h1,q,h3];rfl);have E:(((d+2:Nat)):Int)=(d:Int)+2:=by omega
    unfold IK at x;simp only[E]at x;go_in;go_wp2_with (go_at_call 217;apply(r _ _ _).mono;rintro e D⟨rfl,rfl⟩);refine qR (x _ _<|t.below<|(VM w.heap.size w).alloc qZ _) ?_;rintro D⟨B,p⟩;have y:=Z<|(KP.below ((VM w.heap.size w).alloc qZ _) λk hk=>(C k hk).1).trans<|p.mono λk hk=>.inl hk;have c1:=λj=>bC (p.g (.inr ⟨qZ,by simp⟩)<|aM w _) j;have I:w.heap.size<D.heap.size:=by have:=p.size;simp at this;omega
    go_wp2;all_goals exact VI (by simp[Zh,results318,go_sem]) rfl ⟨rfl,Z<|B.back<|t.2.1,y⟩
def A2{e:Nat}(h:fm n a M=.error e):e=3:=by unfold fm at h;split at h<;>cases h;rfl
def fB:∀{t:aA}{e:Nat},bD F t=.error e->e=2\/e=3
 |.nil,e,h=>by simp[bD]at h
 |.node _ _ p l r,e,h=>by
  unfold bD at h;split at h
  .cases h
  split at h
  .split at h
   .cases h
   cases h;exact .inl rfl
  cases hl:bD F l with
  |error e'=>rw[hl]at h;cases h;exact fB hl
  |ok a=>
   rw[hl]at h;simp only at h;split at h
   .exact .inr<|A2 h
   cases hr:bD F r with
   |error e'=>rw[hr]at h;cases h;exact fB hr
   |ok b=>rw[hr]at h;exact .inr<|A2 h
def xW(w:Za)(hi:Nat):aA->Zb->Prop
 |.nil,v=>v=.pointer none
 |.node _ _ a l r,v=>∃(n:Nat) (vl vr:Zb),v=qP n/\n<hi /\
  w.heap[n]?=some (.cells #[qI a.op,qI a.aC,qI a.n,qT a.s,qT a.src,qT a.name,vl,vr] 269)/\xW w hi l vl/\xW w hi r vr
def xW.aL{w':Za}(b:∀k,k<i->w'.heap[k]?=w.heap[k]?):∀{t:aA}{v:Zb},xW w i t v->xW w' i t v
 |.nil,_,h=>h
 |.node _ _ a l r,v,⟨n,vl,vr,hv,hn,hb,hl,hr⟩=>⟨n,vl,vr,hv,hn,(b n hn).trans hb,hl.aL b,hr.aL b⟩
def xW.more(b:k<=i):∀{t:aA}{v:Zb},xW w k t v->xW w i t v
 |.nil,_,h=>h
 |.node _ _ a l r,v,⟨n,vl,vr,hv,hn,hb,hl,hr⟩=>⟨n,vl,vr,hv,by omega,hb,hl.more b,hr.more b⟩
def cE.c(b:w.heap.size<=i):∀{t:aA}{v:Zb},cE w k t v->xW w i t v
 |.nil,_,h=>h
 |.node _ _ a l r,v,⟨n,vl,vr,hv,hn,hb,hl,hr⟩=>⟨n,vl,vr,hv,by have:=lB hb;omega,hb,hl.c b,hr.c b⟩
def KP.c{P:Y7}{v:Zb}(h:KP P w W)(a:∀k,k<n->P k)(b:xW w n R v):xW W n R v:=b.aL λk hk=>h.block k<|a k hk
def i6(w:Za)(cb:Nat)(P:Y7)(ab:YY)(code:List cQ)(t:aA)(e:Ending)(w':Za):Prop:=
 e=.returned (ou<|bD ab t)/\KP P w w'/\∃code',jM w' cb P ab code'/\code'.length<=code.length+2*eH t/\∀ty,bD ab t=.ok ty->code'=code++cy ab code.length t
def Ca(f:FuncId)(t:aA):Prop:=∀ab code cb P w v,ab.length<=1000->jM w cb P ab code->xW w cb t v->code.length+2*eH t<=1048576->Zc prog f #[qP cb,v] w (i6 w cb P ab code t)
def A1(c:Nat)(a b:Int):(vf c a b).length<=1:=by unfold vf;split<;>simp
def TM{a1 a2:Nat}{p:k_}{r:aA}(M:2<=p.op)(H:p.op<=5)(L:Ca 251 R):Ca 288<|.node a1 a2 p R r:=by
 intro ab d G P w v A q U Q;obtain⟨n,W,vr,rfl,S,(HB:Ze _),N,hR⟩:=U;have Y:=Z q;have O:=q.lt;have T:n<w.heap.size:=by omega
 have c0:=bC HB;rw[eH]at Q;have c:=Z<|L ab d G P w W A q N (by omega);have F:Ze<|eH (.node a1 a2 p R r)=eH R+eH r+1:=by rw[Ze,eH]
 have o:Ze<|bD ab (.node a1 a2 p R r)=match bD ab R with|.error e=>.error e|.ok a=>fm p.op a a:=by
  unfold Ze;rw[bD,VF<|by omega,VF<|by omega];cases bD ab R with
  |error e=>rfl
  |ok a=>simp only;rw[VG H]
 have K:Ze<|cy ab d.length (.node a1 a2 p R r)=cy ab d.length R++[⟨p.op+2,aE,0⟩]:=by unfold Ze;rw[cy,VF<|by omega,VF<|by omega,VG H]
 cases htl:bD ab R with
 |error t=>
  have u:((t:Int) != 0)=true:=by have:=fB htl;simp;omega
  rw[htl]at o;unfold i6 at c ⊢;rw[htl]at c;rw[o];simp only[ou]at c ⊢;go_in;go_wp2_with fail;apply qR c;rintro y⟨k,b,j,l,_⟩;have i:=Z k;have g:=Z j;go_wp2;exact VI (by simp[Zh,results288,go_sem]) rfl ⟨rfl,i,b,g,by rw[F];omega,λx h=>by cases h⟩
 |ok a=>
  rw[htl]at o;unfold i6 at c ⊢;rw[htl]at c;rw[o];simp only[ou]at c;have E:=Z λw' b (k:jM w' G P ab b) (C:b.length+1<=1048576)=>D2 p.op a a M (by omega) k C;obtain⟨x,y,D⟩:∃x y:Int,ou (fm p.op a a)=.tuple #[qI x,qI y]:=by
   cases fm p.op a a with
   |ok t=>exact⟨_,_,rfl⟩
   |error e=>exact⟨_,_,rfl⟩
  simp only;rw[D]at E ⊢;go_in;go_wp2_with fail;apply qR c;rintro X⟨l,b,j,I,g⟩;have z:=Z l;have J:=Z j;have i:=l.g ((Z q.2.1) n S) HB;have d0:=bC i;have V:=lB i;go_wp2_with fail;apply qR<|Z<|E X b j (by omega);rintro w2⟨(u:Ze _),B⟩;go_wp2_with fail;refine VI (by simp[Zh,results288,go_sem]) rfl ⟨rfl,Z<|z.trans B,_,u,?_,λty h=>?_⟩
  .have:=A1 p.op a a;rw[F,VH];omega
  rw[K,Z<|g a rfl];unfold vf;rw[h];simp
def tF(x:aV Int):∃a b:Int,ou x=.tuple #[qI a,qI b]:=by
 cases x with
 |ok t=>exact⟨_,_,rfl⟩
 |error e=>exact⟨_,_,rfl⟩
def TN{a1 a2:Nat}{p:k_}(h6:6<=p.op)(L:p.op<=16)(I:Ca 251 R)(J:Ca 251 S):Ca 289<|.node a1 a2 p R S:=by
 intro ab g K P w v B M ht hl;obtain⟨n,vl,vr,rfl,V,(HB:Ze _),hL,(z:Ze _)⟩:=ht;have ac:=M.lt;have ad:n<w.heap.size:=by omega
 have c0:=bC HB;rw[eH]at hl;have d:=Z<|I ab g K P w vl B M hL (by omega);have i:=Z λc Y N W t=>J ab c K P Y vr B N W t;have u:=Z M.2.1;have H:Ze<|eH (.node a1 a2 p R S)=eH R+eH S+1:=by rw[Ze,eH]
 have D:Ze<|bD ab (.node a1 a2 p R S)=match bD ab R with|.error e=>.error e|.ok a=>match bD ab S with|.error e=>.error e|.ok b=>fm p.op a b:=by
  unfold Ze;rw[bD,VF<|by omega,VF<|by omega];cases bD ab R with
  |error e=>rfl
  |ok a=>simp only;rw[VF<|by omega];cases bD ab S<;>rfl
 have HG:Ze<|cy ab g.length (.node a1 a2 p R S)=cy ab g.length R++(cy ab (g.length+(cy ab g.length R).length) S++[⟨p.op+2,aE,0⟩]):=by unfold Ze;rw[cy,VF<|by omega,VF<|by omega,VF<|by omega,VG L]
 cases htl:bD ab R with
 |error r=>
  have x:((r:Int) != 0)=true:=by have:=fB htl;simp;omega
  rw[htl]at D;unfold i6 at d ⊢;rw[htl]at d;rw[D];simp only[ou]at d ⊢;go_in;go_wp2_with fail;apply qR d;rintro A⟨o,c,l,q,_⟩;have k:=Z o;have j:=Z l;go_wp2;exact VI (by simp[Zh,results289,go_sem]) rfl ⟨rfl,k,c,j,by rw[H];omega,λy h=>by cases h⟩
 |ok a=>
  rw[htl]at D;unfold i6 at d i ⊢;rw[htl]at d;rw[D];simp only[ou]at d;cases htr:bD ab S with
  |error Q=>
   have T:((Q:Int) != 0)=true:=by have:=fB htr;simp;omega
   rw[htr]at i;simp only[ou]at i ⊢;go_in;go_wp2_with fail;apply qR d;rintro X⟨k,c,y,G,C⟩;have q:=Z k;have l:=k.g (u n V) HB;have O:=bC l 7;simp at O;have U:=lB l;have x:=Z<|i c X y (k.c u z) (by omega);go_wp2_with fail;apply qR x;rintro w2⟨E,j,A,F,_⟩;have r:=Z<|q.trans E;have o:=Z A;go_wp2;exact VI (by simp[Zh,results289,go_sem]) rfl ⟨rfl,r,j,o,by rw[H];omega,λty h=>by cases h⟩
  |ok b=>
   rw[htr]at i;simp only[ou]at i;have HF:=Z λY c (k:jM Y K P ab c) (t:c.length+1<=1048576)=>D2 p.op a b (by omega) (by omega) k t;obtain⟨x,y,X⟩:=tF<|fm p.op a b;simp only;rw[X]at HF ⊢;go_in;go_wp2_with fail;apply qR d;rintro w1⟨r,c,O,aa,q⟩;have G:=Z r;have o:=r.g (u n V) HB;have d7:=bC o;have ae:=lB o;have E:=Z o;go_wp2_with fail;apply qR<|Z<|i c w1 O (r.c u z) (by omega);rintro w2⟨C,l,Q,U,j⟩;have A:=C.g (u n V) E;have e0:=bC A;have af:=lB A;go_wp2_with fail;apply qR<|Z<|HF w2 l Q (by omega);rintro w3⟨(F:Ze _),T⟩;go_wp2_with fail;refine VI (by simp[Zh,results289,go_sem]) rfl ⟨rfl,Z<|(Z<|G.trans C).trans T,_,F,?_,λty h=>?_⟩
   .have:=A1 p.op a b;rw[H,VH];omega
   rw[HG,Z<|j b rfl,Z<|q a rfl];unfold vf;rw[h];simp
