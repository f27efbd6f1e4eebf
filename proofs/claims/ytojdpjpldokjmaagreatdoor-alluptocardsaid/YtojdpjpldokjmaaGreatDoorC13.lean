import Derived.Test.YtojdpjpldokjmaaGreatDoorC12
set_option maxHeartbeats 0
set_option maxRecDepth 100000
set_option linter.all false
namespace Go.Proofs.YtojdpjpldokjmaaGreatDoor
open Go.Deep Go.RowKit Tryz
open Go renaming World->Za,Value->Zb,Calls->Zc,TypeId->Zf,callFunc->Zi
open RowKit renaming Hid->Ze,intOf->Zk
variable{W w x:World}{i j k n:Nat}{G H:Y7}{o:YZ}{N:List YW}{A B C u z:Value}{I:YW}
def tG{e:Zf}{v:Zb}{c:Y0}(h:w.ownsRow k e i v n c){j:Nat}{u:Zb}(a:c[j]?=some u):∃g cap,v=qL g n cap/\k<=g/\g<w.heap.size/\w.cell? ⟨g,j,none⟩=some u:=by
 obtain⟨rfl,l⟩|⟨g,cap,d,rfl,o,b,q,r,hs,p⟩:=h.2
 .have:=h.1;rw[l]at this;simp at this;subst this;simp at a
 refine⟨g,cap,rfl,o,lB b,?_⟩;rw[<-p,V6]at a;split at a
 .rw[bC b];simpa using a
 cases a
def Kb:(prog.info? 29).map (λi=>(i.zero,i.size,i.bytes))=some (some qN,1,24):=by kernel_rfl
def wM(d:Y_)(w:Za):(Zi 58 d).run prog w=.ok (.enter 58 d) w:=by
 have g:(f58.name == "runtime.NumGoroutine")=false:=by kernel_rfl
 have c: f58.body.isNone=false:=by kernel_rfl
 have a:¬f58.name = "runtime.NumGoroutine":=by simpa using g
 have b:¬f58.body=none:=by intro e;rw[e]at c;cases c
 simp[Zi,go_sem,func58,a,b]
def aai(b:Below n w W)(c:∀k,G k->n<=k)(a:pE W G x H)(e:n<=W.heap.size):Below n w x:=
 b.trans ⟨a.aL.os,a.aL.tape,a.aL.output,a.aL.size,λk hk=>a.aL.block k ⟨by omega,λd=>by have:=c k d;omega⟩⟩
def uU(w:Za)(rows:List YW)(v:Zb):Prop:=∃a c,v=.slice a rows.length c/\rows.length<=c/\(rows≠[]->∃g o,a=some ⟨g,o,none⟩/\g<w.heap.size/\∀(i:Nat)(r:YW),rows[i]?=some r->∃u,w.cell? ⟨g,o+i,none⟩=some u/\br w w.heap.size 3 vC r u)
def uU.of{v:Zb}(h:rO w w.heap.size o v)(k:∀a n c,v=.slice a n c->n<=c):uU w (o.map (·.1)) v:=by
 obtain⟨⟨a,c,rfl,d⟩,e⟩:=h;refine⟨a,c,by rw[VL],by rw[VL];exact k _ _ _ rfl,λp=>?_⟩;obtain⟨g,rfl,l,j⟩:=d (by rintro rfl;simp at p);refine⟨g,0,rfl,l,λi r b=>?_⟩;rw[VO]at b;cases hq:o[i]? with
 |none=>rw[hq]at b;cases b
 |some q=>
  rw[hq]at b;cases b;have:=j i q hq 0 q.2 rfl;refine⟨q.2,by simpa using this,e q<|VY hq⟩
def uU.below{v:Zb}(h:uU w N v)(b:qB w W):uU W N v:=by obtain⟨a,c,e,q,j⟩:=h;refine⟨a,c,e,q,λt=>?_⟩;obtain⟨g,o,k,d,l⟩:=j t;refine⟨g,o,k,VT d b.size,λi r x=>?_⟩;obtain⟨u,n,p⟩:=l i r x;exact⟨u,by rw[b.cell d];exact n,p.below b⟩
def P8(a b:Int)(c:Y9)(w:Za):Sem.run prog (binOp .neq 34 (.agg #[qI a,qI b,.string c])<|.agg #[qI a,qI b,.string c]) w=.ok (.bool false) w:=by simp[go_sem]
structure App(w w':Za)(v v':Zb):Prop where
 os:w'.os=w.os
 tape:w'.tape=w.tape
 output:w'.output=w.output
 size:w.heap.size<w'.heap.size
 at_:(∃g n N cap,v=qL g n cap/\v'=qL g N cap/\∀k,k<w.heap.size->k≠g->w'.heap[k]?=w.heap[k]?)\/(v'.ownBlock=some (w.heap.size+1)/\∀k,k<w.heap.size->w'.heap[k]?=w.heap[k]?)
def App.block{v:Zb}(h:App w W v u)(b:k<w.heap.size)(c:v.ownBlock≠some k):W.heap[k]?=w.heap[k]?:=by
 obtain⟨g,n,N,cap,rfl,_,a⟩|⟨_,a⟩:=h.at_
 .exact a k b λe=>c (by rw[e];rfl)
 exact a k b
def App.own{v:Zb}(h:App w W v u):u.ownBlock=v.ownBlock\/u.ownBlock=some (w.heap.size+1):=by
 obtain⟨g,n,N,cap,rfl,rfl,b⟩|⟨a,_⟩:=h.at_
 .exact .inl rfl
 exact .inr a
def Pm{t e:Zf}{b:Nat}(M: prog.underlying t=some (.slice e))(x:(prog.info? e).map (λi=>(i.zero,i.size,i.bytes))=some (some z,j,b))(O:z.cells.size=j)(L:0<j)(I:b<=32){a:Nat}{v:Zb}{m:Nat}{E news:Y0}(h:w.ownsRow a e j v n E)(Y:a<=w.heap.size)(W:0<m)(C:news.length=m*j)(Q:∀u∈news,u.oneCell'=true)(hn:n+m<=100000000000)(D:Zf):
 ∃B o,(Builtin.append_ #[t,t] D #[v,qL w.heap.size m m]).run prog (w.alloc<|.cells news.toArray e)=.ok B o/\o.ownsRow a e j B (n+m) (E++news)/\App w o v B:=by
 obtain⟨i,hi,A,rfl,rfl⟩:=V5 x;have Z:(n+m)*i.bytes<=(n+m)*32:=Nat.mul_le_mul_left _ I;have G:=h.alloc<|.cells news.toArray e;have H:=cW w news e;obtain⟨B,o,K,R,p,X,q⟩:=run_append_own_at (P:=prog) (w.alloc<|.cells news.toArray e) a t D e i z _ _ M hi A rfl rfl O L v n E G ⟨w.heap.size,0,none⟩ m m news C H Q (by unfold maxLen;omega) (by omega) (by simp;omega);have hs:w.heap.size<o.heap.size:=by have:=p.size;simp at this;omega
 have hk:∀k,k<w.heap.size->some k≠v.ownBlock->o.heap[k]?=w.heap[k]?:=λk d F=>by rw[p.block k (by simp;omega) F,V2 _ _ _ d]
 refine⟨B,o,K,R,p.os,p.tape,p.output,hs,?_⟩;obtain⟨rfl,rfl⟩|⟨g,cap,l,rfl,S,U,V,T,J,N⟩:=G.2
 .refine .inr ⟨?_,λk d=>hk k d λe=>by cases e⟩;obtain q|q:=q
  .obtain⟨rfl,d⟩|⟨g,cap,l,rfl,_⟩:=R.2
   .omega
   cases q
  rw[q];simp
 .by_cases c:n+m<=cap
  .have r:n*i.size+news.length<=l.size:=by rw[C,J,<-YU];exact Wy _ c
   have y:=run_append_room (P:=prog) _ t D e i M hi g n cap l U ⟨w.heap.size,0,none⟩ m m news C H Q c r;rw[K]at y;injection y with e1 e2;exact .inl ⟨g,n,n+m,cap,rfl,e1,λk d F=>hk k d λe=>F<|by injection e⟩
  have r:=run_append_grow (P:=prog) _ t D e i z M hi A ⟨g,0,none⟩ n cap E h.1 (G.cells (g:=g) rfl) ⟨w.heap.size,0,none⟩ m m news C H (by omega) (by omega)<|growslice_fits (by omega) (by omega);rw[K]at r;injection r with e1 e2;refine .inr ⟨by rw[e1];simp[Zb.ownBlock],λk d=>?_⟩;rw[e2];exact(V2 (w.alloc<|.cells news.toArray e).drew _ k (by show k<(w.alloc _).heap.size;simp;omega)).trans (V2 _ _ _ d)
def Dj{e:Zf}{mk:Nat->Y0}(x:∀n j,n<=j->(mk j).take (n*i)=mk n)(C:0<i){v:Zb}{m:Nat}(b:w.ownsRow 0 e i u m<|mk m)(P:w.ownsRow 0 e i v n<|mk n)(L:W.ownsRow 0 e i z j<|mk j)(M:App w W v z)(I:m<=j):W.ownsRow 0 e i u m<|mk m:=by
 obtain⟨g,_,_,cap,rfl,rfl,l⟩|⟨_,l⟩:=M.at_
 .by_cases o:u.ownBlock=some g
  .refine⟨b.1,.inr ?_⟩;obtain⟨rfl,_⟩|⟨H,a,F,rfl,_,q,p,O,y,_⟩:=b.2
   .cases o
   obtain rfl:H=g:=by simpa[Zb.ownBlock]using o
   obtain⟨h,_⟩|⟨Q,E,G,J,_,k,_,_,A,_⟩:=P.2
   .cases h
   cases J;rw[q]at k;cases k;have d:a=cap:=Nat.eq_of_mul_eq_mul_right C<|y.symm.trans A;subst d;obtain⟨h,_⟩|⟨R,Fg,c,K,_,r,N,t,B,D⟩:=L.2
   .cases h
   cases K;refine⟨H,a,c,rfl,qO,r,p,t,B,?_⟩;have:=x m j I;rw[<-D,XW,XE<|Wy _ I]at this;exact this
  exact cN b λk hk=>l k (b.lt k hk).2 λe=>o (by rw[<-e];exact hk)
 exact cN b λk hk=>l k (b.lt k hk).2
def mV(k:Nat):ai:=⟨-1-(k:Int),0,[]⟩
def Gn(k n:Nat):Y0:=c_<|List.replicate n<|mV k
def zO(mb n:Nat):Y0:=List.replicate n<|qL mb 1 1
def Km(k a b:Nat):Gn k (a+b)=Gn k a++Gn k b:=by simp only[Gn,c_,<-Xr,Ya]
def Kn(k n:Nat):(Gn k n).length=n*3:=by unfold Gn;rw[kB];simp
def NS(k n N:Nat)(h:n<=N):(Gn k N).take (n*3)=Gn k n:=by rw[show N=n+(N-n) by omega,Km,<-Kn k n,Yj]
def NR(a n N:Nat)(h:n<=N):(zO a N).take (n*1)=zO a n:=by simp[zO];omega
def B8(w:Za)(F:Y7)(c k:Nat)(v:Zb):Prop:=∃n,n<=2000000/\(∀b,v.ownBlock=some b->F b) /\
 (if c<2 then w.ownsRow 0 34 3 v n (Gn k n)else ∃mb,F mb/\w.heap[mb]?=some (.cells (vC<|mV k).toArray 34)/\w.ownsRow 0 32 1 v n (zO mb n))
def B8.aL{w':Za}{v:Zb}(h:B8 w G i k v)(l:∀b,G b->H b)(e:∀b,G b->w'.heap[b]?=w.heap[b]?):B8 w' H i k v:=by
 obtain⟨n,p,d,c⟩:=h;refine⟨n,p,λb a=>l b<|d b a,?_⟩;by_cases o:i<2
 .rw[VG o]at c ⊢;exact cN c λb a=>e b<|d b a
 rw[VF o]at c ⊢;obtain⟨g,j,q,r⟩:=c;exact⟨g,l g j,(e g j).trans q,cN r λb a=>e b<|d b a⟩
abbrev Sr(c:Nat):Zf:=if c<2 then 32 else 29
abbrev Vn(c:Nat):Zf:=if c<2 then 29 else 56
def idx(c j:Nat):Nat:=if c % 2=0 then j else j / 3
def Pf{α:Type}(f:Nat->α)(c:Nat)(x:α):Nat->α:=λd=>if d=c then x else f d
def yE{α:Type}(f:Nat->α)(c:Nat)(x:α):Pf f c x c=x:=VG rfl
def yF{α:Type}{f:Nat->α}(x:α)(h:k≠n):Pf f n x k=f k:=VF h
abbrev lp(came:Nat)(kv wv psv:Zb)(vs:Nat->Zb):Obj:=.cells #[qI (came:Nat),.bool false,kv,wv,psv,vs 0,vs 1,vs 2,vs 3] 66
structure j_(w:Za)(F:Y7)(wb came:Nat)(kv wv psv:Zb)(vs:Nat->Zb)(ls:Nat->Y0):Prop where
 box:w.heap[wb]?=some (lp came kv wv psv vs)
 own:∀c,c<4->w.ownsRow 0 (Sr c) 1 (vs c) (ls c).length (ls c)
 ap:∀c d k,c<4->d<4->(vs c).ownBlock=some k->(vs d).ownBlock=some k->c=d
 fix:∀k,F k->k<w.heap.size/\k≠wb/\∀c,c<4->(vs c).ownBlock≠some k
 full:∀c j v,c<4->(ls c)[j]?=some v->B8 w F c (idx c j) v
def LS(wb:Nat)(F:Y7)(vs:Nat->Zb):Nat->Prop:=λk=>k=wb\/F k\/∃c,c<4/\(vs c).ownBlock=some k
def j_.lt{b:Nat->Zb}{e:Nat->Y0}(h:j_ w G n i u z A b e)(a:LS n G b k):k<w.heap.size:=by
 obtain rfl|a|⟨c,d,a⟩:=a
 .exact lB h.box
 .exact(h.fix k a).1
 exact((h.own c d).lt k a).2
def j_.aL{w':Za}{g:Nat->Zb}{l:Nat->Y0}(h:j_ w G n i u z A g l)(p:w.heap.size<=w'.heap.size)(d:∀k,LS n G g k->w'.heap[k]?=w.heap[k]?):j_ w' G n i u z A g l:=
 ⟨(d n<|.inl rfl).trans h.box,λc b=>cN (h.own c b) λk e=>d k<|.inr<|.inr ⟨c,b,e⟩,h.ap,λk a=>⟨by have:=(h.fix k a).1;omega,(h.fix k a).2⟩,λc j v b o=>(h.full c j v b o).aL (λk h=>h) λk a=>d k<|.inr<|.inl a⟩
def j_.l{a:Nat->Zb}{d:Nat->Y0}(h:j_ w G n k u z A a d)(c:i<4):(a i).ownBlock≠some n:=λe=>by obtain⟨C,m,b⟩:=eX (h.own i c) e;exact gZ b h.box (by unfold Sr;split<;>decide) rfl
def j_.more{g:Nat->Zb}{l:Nat->Y0}(h:j_ w H n i u z A g l){G:Y7}(a:∀k,G k->k<w.heap.size/\¬LS n H g k):j_ w (λk=>H k\/G k) n i u z A g l:=
 ⟨h.box,h.own,h.ap,λk hk=>hk.elim (h.fix k) λd=>⟨(a k d).1,λe=>(a k d).2<|.inl e,λc b e=>(a k d).2<|.inr<|.inr ⟨c,b,e⟩⟩,λc j v b o=>(h.full c j v b o).aL (λk h=>.inl h) λ_ _=>rfl⟩
def j_.put{a:Nat}{b:Zb}{g:Nat->Zb}{q:Nat->Y0}(h:j_ w G n i u z A g q)(d:nu n w W)(x:W.heap[n]?=some (lp a B C b g)):j_ W G n a B C b g q/\pE w (LS n G g) W (LS n G g):=by have hk:∀k,k≠n->W.heap[k]?=w.heap[k]?:=λk h=>d.block k h;refine⟨⟨x,λc l=>cN (h.own c l) λk e=>hk k λr=>h.l l (by rw[<-r];exact e),h.ap,λk o=>by rw[d.size];exact h.fix k o,λc j v l t=>(h.full c j v l t).aL (λk h=>h) λk o=>hk k (h.fix k o).2.1⟩,⟨⟨d.os,d.tape,d.output,W_ d.size.symm,λk p=>hk k λe=>p.2<|.inl e⟩,λk hk=>.inl hk⟩⟩
def JT(a:Nat)(e g c d:Zb)(b:Nat->Zb)(h:n<4): #[qI (a:Nat),.bool false,e,g,c,b 0,b 1,b 2,b 3].setIfInBounds (5+n) d=#[qI (a:Nat),.bool false,e,g,c,Pf b n d 0,Pf b n d 1,Pf b n d 2,Pf b n d 3]:=by
 obtain rfl|rfl|rfl|rfl:n=0\/n=1\/n=2\/n=3:=by omega
 all_goals rfl
def j_.push{g:Nat->Zb}{x:Nat->Y0}(h:j_ w G n i u z A g x){c:Nat}(D:c<4)(F:W.ownsRow 0 (Sr c) 1 B ((x c).length+1)<|x c++[C])(a:App w W (g c) B)(O:B8 w G c (idx c (x c).length) C):
 W.heap[n]?=some (lp i u z A g)/\j_ (W.setCell ⟨n,5+c,none⟩ B) G n i u z A (Pf g c B) (Pf x c<|x c++[C])/\pE w (LS n G g) (W.setCell ⟨n,5+c,none⟩ B) (LS n G<|Pf g c B)/\∀k,k<w.heap.size->k≠n->(g c).ownBlock≠some k->(W.setCell ⟨n,5+c,none⟩ B).heap[k]?=w.heap[k]?:=by
 have P:=a.size;have K:=lB h.box;have E:=(a.block K<|h.l D).trans h.box;have L:B.ownBlock≠some n:=λe=>by
  obtain p|p:=a.own
  .rw[p]at e;exact h.l D e
  rw[p]at e;cases e;omega
 have H:∀k,k<w.heap.size->k≠n->(g c).ownBlock≠some k->(W.setCell ⟨n,5+c,none⟩ B).heap[k]?=w.heap[k]?:=λk l J N=>by rw[VN _ _ _ _ J];exact a.block l N
 have y:∀k,G k->(W.setCell ⟨n,5+c,none⟩ B).heap[k]?=w.heap[k]?:=λk o=>H k (h.fix k o).1 (h.fix k o).2.1<|(h.fix k o).2.2 c D;have q:∀d k,d<4->(Pf g c B d).ownBlock=some k->(d=c/\B.ownBlock=some k)\/(d≠c/\(g d).ownBlock=some k):=λd k _ e=>by
  by_cases hd:d=c
  .subst hd;rw[yE]at e;exact .inl ⟨rfl,e⟩
  rw[yF _ hd]at e;exact .inr ⟨hd,e⟩
 refine⟨E,⟨?_,λd hd=>?_,λd M k hd b l J=>?_,λk o=>⟨by rw[size_set];have:=(h.fix k o).1;omega,(h.fix k o).2.1,λd hd e=>?_⟩,λd j v hd t=>?_⟩,⟨⟨a.os,a.tape,a.output,by rw[size_set];omega,λk hk=>H k hk.1 (λe=>hk.2<|.inl e) λe=>hk.2<|.inr<|.inr ⟨c,D,e⟩⟩,λk hk=>?_⟩,H⟩
 .have:=bS E (5+c) B;rw[JT i u z A B g D]at this;exact this
 .by_cases p:d=c
  .subst p;rw[yE,yE,VH];exact cN F λk hk=>VN _ _ _ _ λe=>L (by have r:k=n:=e;rw[<-r];exact hk)
  rw[yF _ p,yF _ p];exact cN (h.own d hd) λk hk=>H k ((h.own d hd).lt k hk).2 (λe=>h.l hd (by rw[<-e];exact hk)) λe=>p<|h.ap d c k hd D hk e
 .obtain⟨rfl,p⟩|⟨Q,p⟩:=q d k hd l<;>obtain⟨rfl,r⟩|⟨R,r⟩:=q M k b J
  .rfl
  .obtain I|I:=a.own
   .rw[I]at p;exact h.ap _ _ k hd b p r
   rw[I]at p;cases p;have:=((h.own M b).lt _ r).2;omega
  .obtain I|I:=a.own
   .rw[I]at r;exact h.ap _ _ k hd b p r
   rw[I]at r;cases r;have:=((h.own d hd).lt _ p).2;omega
  exact h.ap _ _ k hd b p r
 .obtain⟨rfl,p⟩|⟨I,p⟩:=q d k hd e
  .obtain r|r:=a.own
   .rw[r]at p;exact(h.fix k o).2.2 d hd p
   rw[r]at p;cases p;have:=(h.fix _ o).1;omega
  exact(h.fix k o).2.2 d hd p
 .by_cases p:d=c
  .subst p;rw[yE]at t;by_cases I:j<(x d).length
   .rw[VU I]at t;exact(h.full d j v hd t).aL (λk h=>h) y
   have r:j=(x d).length:=by have:=bw t;simp at this;omega
   subst r;simp at t;subst t;exact O.aL (λk h=>h) y
  rw[yF _ p]at t;exact(h.full d j v hd t).aL (λk h=>h) y
 .obtain l|l|⟨d,hd,l⟩:=hk
  .exact .inl<|.inl l
  .exact .inl<|.inr<|.inl l
  obtain⟨rfl,p⟩|⟨I,p⟩:=q d k hd l
  .obtain r|r:=a.own
   .rw[r]at p;exact .inl<|.inr<|.inr ⟨d,hd,p⟩
   rw[r]at p;cases p;exact .inr<|by omega
  exact .inl<|.inr<|.inr ⟨d,hd,p⟩
def NO(a:n<4):(prog.info? (Sr n)).map (λi=>(i.zero,i.size,i.bytes))=some (some qN,1,24):=by
 obtain rfl|rfl|rfl|rfl:n=0\/n=1\/n=2\/n=3:=by omega
 .exact iN
 .exact iN
 .exact Kb
 exact Kb
def L7(a:n<4): prog.underlying (Vn n)=some (.slice<|Sr n):=by
 obtain rfl|rfl|rfl|rfl:n=0\/n=1\/n=2\/n=3:=by omega
 .exact underlying29
 .exact underlying29
 .exact underlying56
 exact underlying56
def j_.app{y:Nat->Zb}{C:Nat->Y0}(h:j_ w G n i z A B y C)(c:Nat)(x:c<4)(o:Nat)(t e:Zf)(S:o=5+c)(U:t=Vn c)(Q:e=Sr c){a:Y8}{D:Nat}(W:(C c).length<=90000000000)(R:B8 w G c (idx c (C c).length)<|.slice a j D)(L:Zf):
 ∃g p c5 q b r,(Builtin.append_ #[t,t] L #[y c,qL w.heap.size 1 1]).run prog (w.alloc<|.cells #[.slice a j D] e)=.ok (.slice g p c5) q/\q.heap[n]?=some (lp i z A B y)/\j_ (q.setCell ⟨n,o,none⟩<|.slice g p c5) G n i z A B b r/\(b c=.slice g p c5/\∀d,d≠c->b d=y d)/\r c=C c++[.slice a j D]/\(∀d,d≠c->r d=C d)/\pE w (LS n G y) (q.setCell ⟨n,o,none⟩<|.slice g p c5) (LS n G b)/\(∀E H v,B8 w G E H v->B8 (q.setCell ⟨n,o,none⟩<|.slice g p c5) G E H v)/\∀k,k<w.heap.size->¬LS n G y k->(q.setCell ⟨n,o,none⟩<|.slice g p c5).heap[k]?=w.heap[k]?:=by
 subst S U Q;obtain⟨X,q,T,l,P⟩:=Pm (L7 x) (NO x) rfl (by decide) (by decide) (h.own c x) qO (m:=1) (news:=[.slice a j D]) (by decide) rfl (λu K=>by simp at K;subst K;rfl) (by omega) L;obtain⟨g,p,c5,rfl⟩:=aF l;obtain⟨M,N,O,I⟩:=h.push x l P R;refine⟨g,p,c5,q,_,_,T,M,N,⟨yE _ _ _,λd hd=>yF _ hd⟩,yE _ _ _,λd hd=>yF _ hd,O,λE H v V=>V.aL (λk h=>h) λk F=>I k (h.fix k F).1 (h.fix k F).2.1<|(h.fix k F).2.2 c x,λk hk J=>I k hk (λe=>J<|.inl e) λe=>J<|.inr<|.inr ⟨c,x,e⟩⟩
structure Tq(w wr:Za)(l:Zb)(k i:Nat)(row:YW):Prop where
 d:KP (λb=>l.ownBlock≠some b) w wr
 a:wr.heap.size=w.heap.size
 own:wr.ownsRow 0 34 3 l (List.replicate i (mV k)++row.drop i).length<|c_<|List.replicate i (mV k)++row.drop i
def Tq.next{wr:Za}{c:Nat}(h:Tq w wr (qL j n c) k i I)(l:i<I.length):Tq w (xB wr j (i*3)<|mV k) (qL j n c) k (i+1) I:=by
 have e:(List.replicate i (mV k)++I.drop i).set i (mV k)=List.replicate (i+1) (mV k)++I.drop (i+1):=by rw[VJ l,Ws _ _<|by simp,YJ,X0,XL,XA,Wh];rfl
 have d:=BA (k:=i) (x:=mV k) h.own (by simp;omega);rw[e]at d;refine⟨⟨h.d.os,h.d.tape,h.d.output,by rw[xB,size_set,size_set,size_set];exact h.d.size,λb g=>?_⟩,by rw[xB,size_set,size_set,size_set];exact h.a,d⟩;have a:b≠j:=λe=>g (by rw[e];rfl);unfold xB;rw[VN _ _ _ _ a,VN _ _ _ _ a,VN _ _ _ _ a];exact h.d.block b g
def Bj(h:w.ownsRow 0 34 3 z n<|Gn k n)(r:n<=1000000)(m:Nat)(j:0<m)(p:m<=3)(i:Zf):
 ∃d e c5 c,(Builtin.append_ #[32,32] i #[z,qL w.heap.size m m]).run prog (w.alloc<|.cells (Gn k m).toArray 34)=.ok (.slice d e c5) c/\App w c z (.slice d e c5)/\c.ownsRow 0 34 3 (.slice d e c5) (n+m) (Gn k<|n+m)/\(∀u q,q<=n+m->w.ownsRow 0 34 3 u q (Gn k q)->c.ownsRow 0 34 3 u q (Gn k q)):=by
 obtain ⟨t,c,o,a,g⟩:=Pm underlying32 mK rfl (by decide) (by decide) h qO j (Kn k m) (λu b=>by
  unfold Gn c_ at b;rw[XJ]at b;obtain⟨x,_,b⟩:=b;simp[vC]at b
  obtain rfl|rfl|rfl:=b<;>rfl) (by omega) i
 rw[<-Km]at a;obtain⟨d,e,c5,rfl⟩:=aF a;exact⟨d,e,c5,c,o,g,a,λu q l b=>Dj (NS k) (by decide) b h a g l⟩
def App.d{v:Zb}(h:App w W v u):KP (λk=>k<w.heap.size/\v.ownBlock≠some k) w W:=⟨h.os,h.tape,h.output,Nat.le_of_lt h.size,λk hk=>h.block hk.1 hk.2⟩
def KP.go{P:Y7}(h:KP P w W)(k:KP G W x)(a:∀i,H i->P i/\G i):KP H w x:=⟨k.os.trans h.os,k.tape.trans h.tape,k.output.trans h.output,Wf h.size k.size,λi hi=>(k.block i (a i hi).2).trans<|h.block i (a i hi).1⟩
def DP(w:Za)(F:Y7)(wb came:Nat)(kv wv psv:Zb)(vs:Nat->Zb)(ls:Nat->Y0)(H:Y7)(c n:Nat)(e:Ending)(w':Za):Prop:=e=.returned (.tuple #[])/\∃F' vs' ls',j_ w' F' wb came kv wv psv vs' ls'/\(ls' c).length=(ls c).length+n/\(ls'<|c+1).length=(ls<|c+1).length+3*n/\(∀d,d≠c->d≠c+1->ls' d=ls d)/\pE w (λk=>LS wb F vs k\/H k) w' (LS wb F' vs')
def j_.grow{H:Y7}{d:Nat->Zb}{l:Nat->Y0}(h:j_ w G n i u z A d l)(j:∀k,H k->k<w.heap.size/\¬LS n G d k)(b:KP (λk=>k<w.heap.size/\¬H k) w W):
 j_ W (λk=>G k\/(H k\/(w.heap.size<=k/\k<W.heap.size))) n i u z A d l/\pE w (λk=>LS n G d k\/H k) W (LS n (λk=>G k\/(H k\/(w.heap.size<=k/\k<W.heap.size))) d):=by
 have o:j_ W G n i u z A d l:=h.aL b.size λk g=>b.block k ⟨h.lt g,λc=>(j k c).2 g⟩;refine⟨o.more λk p=>p.elim (λc=>⟨VT (j k c).1 b.size,(j k c).2⟩) λq=>⟨q.2,λg=>by have:=h.lt g;omega⟩,⟨⟨b.os,b.tape,b.output,b.size,λk a=>b.block k ⟨a.1,λc=>a.2<|.inr c⟩⟩,λk a=>?_⟩⟩;obtain e|(e|e|e)|e:=a
 .exact .inl<|.inl<|.inl e
 .exact .inl<|.inl<|.inr<|.inl e
 .exact .inl<|.inr e
 .exact .inr e.1
 .exact .inl<|.inl<|.inr<|.inr e
def LV{v:Zb}{i:Nat}(h:w.ownsRow 0 34 3 v I.length<|c_ I)(e:i<I.length):∃g cap x,v=qL g I.length cap/\g<w.heap.size/\w.cell? ⟨g,i*3,none⟩=some (qI<|ai.aC x)/\w.cell? ⟨g,i*3+1,none⟩=some (qI x.n)/\w.cell? ⟨g,i*3+2,none⟩=some (qT x.s)/\∀o,w.frozen? ⟨g,o,none⟩=false:=by
 have p:I[i]?=some I[i]:=VE e;have d:∀j u,(vC I[i])[j]?=some u->(c_ I)[i*3+j]?=some u:=λj u n=>nz vC 3 (λ_=>rfl) I i j I[i] u p n;obtain⟨rfl,q⟩|⟨g,cap,c,rfl,r,b,_,_,_,l⟩:=h.2
 .omega
 have a:∀k u,(c_ I)[k]?=some u->c[k]?=some u:=λk u hk=>by
  rw[<-l,V6]at hk;split at hk
  .simpa using hk
  cases hk
 exact⟨g,cap,I[i],rfl,lB b,(bC b _).trans<|a _ _<|d 0 _ rfl,(bC b _).trans<|a _ _<|d 1 _ rfl,(bC b _).trans<|a _ _<|d 2 _ rfl,bF b⟩
abbrev Kl(k:Nat):Obj:=.cells #[qI<|-1-(k:Int),qI 0,.string ⟨#[]⟩] 34
def j_.four{b:Nat->Zb}{T:Nat->Y0}(h:j_ w G n i u z A b T)(c o a:Nat)(t e:Zf)(C:c=0\/c=2)(ho:o=5+c)(af:a=6+c)(S:t=Vn c)(R:e=Sr c)(hk:(T c).length=k)(g:(T<|c+1).length=3*k)(al:k<=20000000000){la b1 b2 b3:Y8}{ln lc n1 c1 n2 c2 n3 c3:Nat}
 (f0:B8 w G c k<|.slice la ln lc)(f1:B8 w G (c+1) k<|.slice b1 n1 c1)(f2:B8 w G (c+1) k<|.slice b2 n2 c2)(f3:B8 w G (c+1) k<|.slice b3 n3 c3):
 ∃U V W q K L M x r0 r1 r2 y N O P B y5 y7,(Ze ((Builtin.append_ #[t,t] t #[b c,qL w.heap.size 1 1]).run prog (w.alloc<|.cells #[.slice la ln lc] e)=.ok (.slice U V W) q)/\Ze ((Builtin.append_ #[t,t] t #[b<|c+1,qL q.heap.size 1 1]).run prog ((q.setCell ⟨n,o,none⟩<|.slice U V W).alloc<|.cells #[.slice b1 n1 c1] e)=.ok (.slice K L M) x)/\Ze ((Builtin.append_ #[t,t] t #[.slice K L M,qL x.heap.size 1 1]).run prog ((x.setCell ⟨n,a,none⟩<|.slice K L M).alloc<|.cells #[.slice b2 n2 c2] e)=.ok (.slice r0 r1 r2) y)/\Ze ((Builtin.append_ #[t,t] t #[.slice r0 r1 r2,qL y.heap.size 1 1]).run prog ((y.setCell ⟨n,a,none⟩<|.slice r0 r1 r2).alloc<|.cells #[.slice b3 n3 c3] e)=.ok (.slice N O P) B)) /\
 (w.cell? ⟨n,o,none⟩=some (b c)/\q.cell? ⟨n,o,none⟩=some (b c)/\q.cell? ⟨n,a,none⟩=some (b<|c+1)/\x.cell? ⟨n,a,none⟩=some (b<|c+1)/\y.cell? ⟨n,a,none⟩=some y5/\B.cell? ⟨n,a,none⟩=some y7)/\(n<w.heap.size/\n<q.heap.size/\n<x.heap.size/\n<y.heap.size/\n<B.heap.size)/\(q.frozen? ⟨n,o,none⟩=false/\x.frozen? ⟨n,a,none⟩=false/\y.frozen? ⟨n,a,none⟩=false/\B.frozen? ⟨n,a,none⟩=false) /\
 ∃Q p,j_ (B.setCell ⟨n,a,none⟩<|.slice N O P) G n i u z A Q p/\(p c).length=k+1/\(p<|c+1).length=3*(k+1)/\(∀d,d≠c->d≠c+1->p d=T d)/\pE w (LS n G b) (B.setCell ⟨n,a,none⟩<|.slice N O P) (LS n G Q):=by
 have⟨ae,D,hd⟩:c<4/\c+1<4/\c≠c+1:=by omega
 have e0:∀j,idx c j=j:=λj=>by rw[idx,VG<|by omega]
 have X:∀j,idx (c+1) j=j / 3:=λj=>by rw[idx,VF<|by omega]
 have I:∀b:Nat->Zb,#[qI (i:Nat),.bool false,u,z,A,b 0,b 1,b 2,b 3][o]?=some (b c)/\#[qI (i:Nat),.bool false,u,z,A,b 0,b 1,b 2,b 3][a]?=some (b<|c+1):=λb=>by obtain rfl|rfl:=C<;>subst ho af<;>exact⟨rfl,rfl⟩
 obtain⟨U,V,W,q,ah,am,r4,l,aa,g4,l4,r,s4,Y,-⟩:=h.app c ae o t e ho S R (by omega) (by rw[hk,e0];exact f0) t;obtain⟨K,L,M,x,ai,an,r5,E,ab,g5,J,k5,s5,f5,-⟩:=aa.app (c+1) D a t e (by omega) (by obtain rfl|rfl:=C<;>exact S) (by obtain rfl|rfl:=C<;>exact R) (by rw[r _ hd.symm];omega) (by rw[r _ hd.symm,g,X,show 3*k / 3=k by omega];exact Y _ _ _ f1) t;obtain⟨a0,a1,a2,y,aj,ao,r6,F,ac,g6,l6,k6,s6,f6,-⟩:=ab.app (c+1) D a t e (by omega) (by obtain rfl|rfl:=C<;>exact S) (by obtain rfl|rfl:=C<;>exact R) (by rw[J,r _ hd.symm,VH];simp;omega) (by rw[J,r _ hd.symm,VH,g,X,V_,show(3*k+1) / 3=k by omega];exact f5 _ _ _<|Y _ _ _ f2) t;obtain⟨N,O,P,B,ak,ag,r7,H,ad,g7,l7,k7,s7,f7,-⟩:=ac.app (c+1) D a t e (by omega) (by obtain rfl|rfl:=C<;>exact S) (by obtain rfl|rfl:=C<;>exact R) (by rw[l6,J,r _ hd.symm,VH,VH];simp;omega) (by rw[l6,J,r _ hd.symm,VH,VH,g,X,V_,V_,show(3*k+1+1) / 3=k by omega];exact f6 _ _ _<|f5 _ _ _<|Y _ _ _ f3) t;rw[g4.2 _ hd.symm,size_set]at r5;rw[g5.1,size_set]at r6;rw[g6.1,size_set]at r7;refine⟨U,V,W,q,K,L,M,x,a0,a1,a2,y,N,O,P,B,_,_,⟨r4,r5,r6,r7⟩,⟨(bC h.box o).trans (I b).1,(bC l o).trans (I b).1,(bC l a).trans (I b).2,?_,(bC F a).trans (I ai).2,(bC H a).trans (I aj).2⟩,⟨lB h.box,lB l,lB E,lB F,lB H⟩,⟨bF l o,bF E a,bF F a,bF H a⟩,ak,ag,ad,?_,?_,λd h0 Z=>by rw[k7 d Z,k6 d Z,k5 d Z,r d h0],((s4.trans s5).trans s6).trans s7⟩
 .rw[<-g4.2 _ hd.symm];exact(bC E a).trans (I ah).2
 .rw[k7 _ hd,k6 _ hd,k5 _ hd,l4,VH,hk];rfl
 .rw[l7,l6,J,r _ hd.symm];simp only[VH,V_,g];omega
def OS{vs:Nat->Zb}{M:Nat->Y0}(h:j_ w G n j z A B vs M)(d:w.ownsRow 0 34 3 C I.length<|c_ I)(p:∀k,C.ownBlock=some k->¬LS n G vs k)(a:I.length<=100000)(h0:(M 0).length<=20000000000)(i:(M 1).length=3*(M 0).length):
 Zc prog 195 #[qP n,C] w (DP w G n j z A B vs M (λk=>C.ownBlock=some k) 0 1):=by
 have al:=lB h.box;obtain⟨va,vc,g,-⟩:=cz<|h.own 0 (by decide);have b5:=bC h.box 5;simp at b5;rw[g]at b5;obtain⟨k,(K:Ze _)⟩:∃k,(M 0).length=k:=⟨_,rfl⟩;rw[K]at b5 h0 i;have P:=Z i;have hA:=aM w<|Kl k;obtain⟨l,o,rfl⟩:=bN d;have ad:Ze<|Tq (w.alloc<|Kl k) (w.alloc<|Kl k) (.slice l I.length o) k 0 I:=⟨KP.refl _ _,rfl,by simpa using d.alloc _⟩;have c:Zb.ownBlock (.slice l I.length o)≠some w.heap.size:=λe=>by have:=(d.lt _ e).2;omega
 have Q:Ze<|KP (λb=>b<w.heap.size) w<|w.alloc<|Kl k:=⟨rfl,rfl,rfl,by simp,λb a=>V2 _ _ _ a⟩;have ac:(w.alloc<|Kl k).heap.size=w.heap.size+1:=by simp
 have HX:=Z h;have HN:=Z p;have HR:=Z d;have y:=Z c;clear h p d i g c;go_in;go_wp2;generalize w.alloc (Kl k)=w0 at*
 go_loopw [5] (λs wr=>∃i:Nat,i<=I.length/\s=qI (i:Nat)/\Ze (Tq w0 wr (.slice l I.length o) k i I)) (λs _=>I.length-(Zk s).toNat)
 exact⟨0,Wi _,rfl,ad⟩
 case round=>
  obtain⟨i,hi,rfl,J⟩:=hrel;have d:=(J.d.block w.heap.size y).trans hA;have a0:=bC d 0;have a1:=bC d 1;have a2:=bC d 2;simp at a0 a1 a2;by_cases ae:i<I.length
  .obtain⟨g,cap,x,e,u,D,E,F,t⟩:=LV J.own (i:=i) (by simp;omega);injection e with p q e3;subst p;have c:=Z<|J.next ae;unfold xB mV at c;have r:(i:Int)<(I.length:Int):=by omega
   clear d q e3;go_wp2;go_roundw;exact⟨i+1,by omega,by go_num,c⟩;simp[Zk];omega
  obtain rfl:i=I.length:=by omega
  have N:=J.own;rw[Wa,WQ,X0]at N;have ai:wr.heap.size=w.heap.size+1:=J.a.trans ac;have R:Ze<|KP (λb=>b<w.heap.size/\Zb.ownBlock (.slice l I.length o)≠some b) w wr:=Q.go J.d λb a=>⟨a.1,a.2⟩;obtain⟨b1,n1,c1,w1,Y,r,V,x⟩:=Bj N (by omega) 1 (by decide) (by decide) 32;obtain⟨b2,n2,c2,w2,aa,t,W,D⟩:=Bj (x _ _ (by omega) N) (by omega) 2 (by decide) (by decide) 32;obtain⟨b3,n3,c3,O,ab,F,X,E⟩:=Bj (D _ _ (by omega)<|x _ _ (by omega) N) (by omega) 3 (by decide) (by decide) 32;have af:=r.size;have ag:=t.size;have ah:=F.size;have g:=(r.block (lB d) y).trans d;have p:=(t.block (by omega) y).trans g;have d0:=bC g 0;have d1:=bC g 1;have d2:=bC g 2;have e0:=bC p 0;have e1:=bC p 1;have e2:=bC p 2;simp at d0 d1 d2 e0 e1 e2;have S:Ze<|KP (λb=>b<w.heap.size/\¬Zb.ownBlock (.slice l I.length o)=some b) w O:=((R.go r.d λb a=>⟨a,by omega,a.2⟩).go t.d λb a=>⟨a,by omega,a.2⟩).go F.d λb a=>⟨a,by omega,a.2⟩;obtain⟨hL,hS⟩:=HX.grow (H:=λb=>Zb.ownBlock (.slice l I.length o)=some b) (λb a=>⟨(HR.lt b a).2,HN b a⟩) S;have T:∀u q,q<=2000000->O.ownsRow 0 34 3 u q (Gn k q)->(∀b,u.ownBlock=some b->Zb.ownBlock (.slice l I.length o)=some b\/w.heap.size<=b)->∀c,c<2->B8 O (λb=>G b\/(Zb.ownBlock (.slice l I.length o)=some b\/(w.heap.size<=b/\b<O.heap.size))) c k u:=λu q hq hu a c hc=>⟨q,hq,λb h=>.inr<|(a b h).imp id λh'=>⟨h',(hu.lt b h).2⟩,by rw[VG hc];exact hu⟩;have F1:=Z<|T _ _ (by omega) (E _ _ (by omega)<|D _ _ (by omega) V) (λb h=>r.own.elim (λe=>.inl<|e▸h) λe=>.inr (by rw[e]at h;cases h;omega)) 1 (by decide);have F2:=Z<|T _ _ (by omega) (E _ _ (by omega) W) (λb h=>t.own.elim (λe=>.inl<|e▸h) λe=>.inr (by rw[e]at h;cases h;omega)) 1 (by decide);have F3:=Z<|T _ _ (by omega) X (λb h=>F.own.elim (λe=>.inl<|e▸h) λe=>.inr (by rw[e]at h;cases h;omega)) 1 (by decide);generalize (λb=>G b\/(Zb.ownBlock (.slice l I.length o)=some b\/(w.heap.size<=b/\b<O.heap.size)))=F' at*;obtain⟨p0,p1,p2,x0,q0,q1,q2,x1,r0,r1,r2,x2,t0,t1,t2,x3,j5,j7,⟨R4,R5,R6,R7⟩,⟨y0,y1,y2,y3,y5,y7⟩,⟨u0,u1,u3,u5,u7⟩,⟨v0,v1,v2,v3⟩,ak,aj,U,l0,l1,l2,s7⟩:=hL.four 0 5 6 29 32 (.inl rfl) rfl rfl rfl rfl K P (by omega) (Z<|T _ _ (by omega) (E _ _ (by omega)<|D _ _ (by omega)<|x _ _ (by omega) N) (λb h=>.inl h) 0<|by decide) F1 F2 F3;have L:Ze<|DP w G n j z A B vs M (λk=>Zb.ownBlock (.slice l I.length o)=some k) 0 1 (.returned<|.tuple #[])<|x3.setCell ⟨n,6,none⟩<|.slice t0 t1 t2:=⟨rfl,F',ak,aj,U,by rw[l0,K],by rw[l1,P];omega,l2,hS.trans s7⟩;have R1:Ze<|(Builtin.append_ #[32,32] 32 #[.slice l I.length o,qL wr.heap.size 1 1]).run prog (wr.alloc<|Kl k)=.ok (.slice b1 n1 c1) w1:=Y;have z1:=lB g;have z2:=lB p;have R2:Ze<|(Builtin.append_ #[32,32] 32 #[.slice l I.length o,qL w1.heap.size 2 2]).run prog (w1.alloc<|.cells #[qI<|-1-(k:Int),qI 0,.string ⟨#[]⟩,qI<|-1-(k:Int),qI 0,.string ⟨#[]⟩] 34)=.ok (.slice b2 n2 c2) w2:=aa;have R3:Ze<|(Builtin.append_ #[32,32] 32 #[.slice l I.length o,qL w2.heap.size 3 3]).run prog (w2.alloc<|.cells #[qI<|-1-(k:Int),qI 0,.string ⟨#[]⟩,qI<|-1-(k:Int),qI 0,.string ⟨#[]⟩,qI<|-1-(k:Int),qI 0,.string ⟨#[]⟩] 34)=.ok (.slice b3 n3 c3) O:=ab;clear Y aa ab hL U l0 l1 l2 s7 hS F1 F2 F3 T S R x D E V W X r t F d g p N J HX HN HR Q y hA ai ac af ag ah;go_wp2_with (at_builtin;first|refine Lib.wpList_append_run _ rfl (.tmp 26) (.tmp 28) 32 32 rfl _ _ rfl rfl _ _ R1 ?_|refine Lib.wpList_append_run _ rfl (.tmp 30) (.tmp 33) 32 32 rfl _ _ rfl rfl _ _ R2 ?_|refine Lib.wpList_append_run _ rfl (.tmp 35) (.tmp 39) 32 32 rfl _ _ rfl rfl _ _ R3 ?_|refine Lib.wpList_append_run _ rfl (.tmp 45) (.tmp 47) 29 29 rfl _ _ rfl rfl _ _ R4 ?_|refine Lib.wpList_append_run _ rfl (.tmp 55) (.tmp 57) 29 29 rfl _ _ rfl rfl _ _ R5 ?_|refine Lib.wpList_append_run _ rfl (.tmp 65) (.tmp 67) 29 29 rfl _ _ rfl rfl _ _ R6 ?_|refine Lib.wpList_append_run _ rfl (.tmp 75) (.tmp 77) 29 29 rfl _ _ rfl rfl _ _ R7 ?_);exact WL (v:=.tuple #[]) (by simp[results,results195,go_sem]) rfl L
def HB(l:Zb)(qs:YZ)(k:Nat):Prop:=l.ownBlock=some k\/∃q∈qs,q.2.ownBlock=some k
structure JY(w:Za)(l:Zb)(qs:YZ):Prop where
 own:w.ownsRow 0 32 1 l qs.length<|df qs
 rows:fP w 0 qs
 len:(∀q∈qs,q.1.length<=100000)/\qs.length<=1048576
def JY.lt(h:JY w u o)(a:HB u o k):k<w.heap.size:=by
 obtain a|⟨q,b,a⟩:=a
 .exact(h.own.lt k a).2
 exact((h.rows.1 q b).lt k a).2
def JY.aL{w':Za}(h:JY w u o)(a:∀k,HB u o k->w'.heap[k]?=w.heap[k]?):JY w' u o:=
 ⟨cN h.own λk e=>a k<|.inl e,⟨λq b=>cN (h.rows.1 q b) λk e=>a k<|.inr ⟨q,b,e⟩,h.rows.2⟩,h.len⟩
def S_(ls:Nat->Y0)(n m:Nat):Prop:=(ls 0).length=n/\(ls 1).length=3*n/\(ls 2).length=m/\(ls 3).length=3*m
def P7{q:au}{rest:YZ}(g:w.ownsRow 0 32 1 u o.length<|df o)(d:fP w 0<|q::rest)(n:∀k,HB u (q::rest) k->¬G k)(b:pE w (λk=>G k\/q.2.ownBlock=some k) W H):
 W.ownsRow 0 32 1 u o.length (df o)/\fP W 0 rest/\(∀k,HB u rest k->¬H k)/\pE w (λk=>G k\/HB u (q::rest) k) W (λk=>H k\/HB u rest k):=by
 obtain⟨i,j⟩:=WZ.1 d.2;have l:∀k,HB u rest k->k<w.heap.size/\¬(G k\/q.2.ownBlock=some k):=λk hk=>by
  obtain hk|⟨p,a,hk⟩:=hk
  .refine⟨(g.lt k hk).2,λh=>h.elim (n k<|.inl hk) λe=>?_⟩;obtain⟨C,m,r⟩:=eX g hk;obtain⟨t,x,c⟩:=eX (d.1 q<|by simp) e;exact gZ r c (by decide) rfl
  exact⟨((d.1 p<|by simp[a]).lt k hk).2,λh=>h.elim (n k<|.inr ⟨p,by simp[a],hk⟩) λe=>i p a k e hk⟩
 have hk:∀k,HB u rest k->W.heap[k]?=w.heap[k]?:=λk h=>b.aL.block k<|l k h;refine⟨cN g λk e=>hk k<|.inl e,⟨λp a=>cN (d.1 p<|by simp[a]) λk e=>hk k<|.inr ⟨p,a,e⟩,j⟩,λk h=>b.not (l k h).1 (l k h).2,⟨⟨b.aL.os,b.aL.tape,b.aL.output,b.aL.size,λk h=>b.aL.block k ⟨h.1,λc=>h.2<|c.imp id λe=>.inr ⟨q,by simp,e⟩⟩⟩,λk h=>?_⟩⟩;obtain h|h:=h
 .exact(b.new k h).imp (λc=>c.imp id λe=>.inr ⟨q,by simp,e⟩) id
 .exact .inl<|.inr<|h.imp id λ⟨p,a,e⟩=>⟨p,by simp[a],e⟩
structure U8(w:Za)(S0:Y7)(wb came:Nat)(kv wv psv:Zb)(n m:Nat)(l:Zb)(qs:YZ)(i:Nat)(wr:Za):Prop where
 ex:∃F vs ls,j_ wr F wb came kv wv psv vs ls/\S_ ls (n+i) m/\wr.ownsRow 0 32 1 l qs.length (df qs)/\fP wr 0 (qs.drop i)/\(∀k,HB l (qs.drop i) k->¬LS wb F vs k)/\pE w S0 wr (λk=>LS wb F vs k\/HB l (qs.drop i) k)
structure Tr(w wr:Za)(l:Zb)(mb i:Nat)(xs:Y0):Prop where
 d:KP (λb=>l.ownBlock≠some b) w wr
 a:wr.heap.size=w.heap.size
 own:wr.ownsRow 0 32 1 l xs.length<|zO mb i++xs.drop i
def Tr.next{wr:Za}{a:Nat}{b:Y0}(h:Tr w wr (qL k n j) a i b)(d:i<b.length):Tr w (wr.setCell ⟨k,i,none⟩<|qL a 1 1) (qL k n j) a (i+1) b:=by
 have e:(zO a i++b.drop i).set i (qL a 1 1)=zO a (i+1)++b.drop (i+1):=by unfold zO;rw[VJ d,Ws _ _<|by simp,YJ,X0,XL,XA,Wh];rfl
 have c:=Aa (i:=i) h.own rfl (by omega)<|qL a 1 1;rw[e]at c;exact⟨h.d.set (p:=⟨k,i,none⟩) (λg=>g rfl) _,by rw[size_set];exact h.a,c⟩
def P6(c a b:Nat):zO c (a+b)=zO c a++zO c b:=by simp only[zO,<-Xr]
def yo(h:w.ownsRow 0 32 1 z n<|zO k n)(r:n<=2000000)(m:Nat)(j:0<m)(p:m<=3)(i:Zf):
 ∃c e c5 b,(Builtin.append_ #[29,29] i #[z,qL w.heap.size m m]).run prog (w.alloc<|.cells (zO k m).toArray 32)=.ok (.slice c e c5) b/\App w b z (.slice c e c5)/\b.ownsRow 0 32 1 (.slice c e c5) (n+m) (zO k<|n+m)/\(∀u q,q<=n+m->w.ownsRow 0 32 1 u q (zO k q)->b.ownsRow 0 32 1 u q (zO k q)):=by
 obtain ⟨t,b,o,a,g⟩:=Pm underlying29 iN rfl (by decide) (by decide) h qO j (news:=zO k m) (by simp [zO]) (λu d=>by
  unfold zO at d;rw[List.mem_replicate]at d
  rw[d.2];rfl) (by omega) i
 rw[<-P6]at a;obtain⟨c,e,c5,rfl⟩:=aF a;exact⟨c,e,c5,b,o,g,a,λu q l d=>Dj (NR k) (by decide) d h a g l⟩
def DO(w:Za)(S0:Y7)(wb came:Nat)(kv wv psv:Zb)(n m:Nat)(e:Ending)(w':Za):Prop:=e=.returned (.tuple #[])/\∃F vs ls,j_ w' F wb came kv wv psv vs ls/\S_ ls n m/\pE w S0 w' (LS wb F vs)
def NQ{p a:Nat}{K:Nat->Zb}{U:Nat->Y0}(h:j_ w G p a z A B K U){m:Nat}(hc:S_ U n m)(hM:JY w C o)(hd:∀k,HB C o k->¬LS p G K k)(hn:n+o.length<=20000000000)(hm:m<=20000000000):
 Zc prog 140 #[.pointer<|some ⟨p,0,none⟩,C] w (DO w (λk=>LS p G K k\/HB C o k) p a z A B (n+o.length)<|m+1):=by
 have ak:Ze<|U8 w (λk=>LS p G K k\/HB C o k) p a z A B n m C o 0 w:=⟨G,K,U,h,hc,hM.own,by rw[WG];exact hM.rows,by rw[WG];exact hd,by rw[WG];exact pE.refl _ _⟩;have ax:=hM.len.2;obtain⟨t,r,rfl⟩:=bN hM.own;generalize (λk=>LS p G K k\/HB (.slice t o.length r) o k)=S0 at*;go_in;go_wp2
 go_loopw [4] (λs wr=>∃i:Nat,i<=o.length/\s=.int .i64 (i:Nat)/\Ze (U8 w S0 p a z A B n m (.slice t o.length r) o i wr)) (λs _=>o.length-(Zk s).toNat)
 exact⟨0,qO,rfl,ak⟩
 case round=>
  obtain⟨i,hi,rfl,D⟩:=hrel;obtain⟨G,K,U,L,c,y,u,d,x⟩:=D.ex;by_cases S:i<o.length
  .have E:o[i]?=some o[i]:=VE S;have l:o.drop i=o[i]::o.drop (i+1):=VJ S;have F:=(Z hM.len.1).o _<|VQ S;generalize o[i]=q at*;obtain⟨g,_,e,_,hg,x0⟩:=tG y (j:=i) (u:=q.2) (by rw[df,VO,E];rfl);injection e with e1 e2 e3;subst e1;rw[l]at u d x;have N:=u.1 q (by simp);have Q:=Z<|OS L N (λk e=>d k<|.inr ⟨q,by simp,e⟩) F (by rw[c.1];omega) (by rw[c.2.1,c.1]);obtain⟨qa,qn,qc,b⟩:=aF N;rw[b]at x0;have M:Ze<|Zc prog 195 #[.pointer<|some ⟨p,0,none⟩,.slice qa qn qc] wr<|DP wr G p a z A B K U (λk=>q.2.ownBlock=some k) 0 1:=by rw[<-b];exact Q
   have ay:((i:Nat):Int)<((o.length:Nat):Int):=by omega
   have J:Ze (∀I,DP wr G p a z A B K U (λk=>q.2.ownBlock=some k) 0 1 (.returned<|.tuple #[]) I->U8 w S0 p a z A B n m (.slice (some ⟨g,0,none⟩) o.length r) o (i+1) I):=λI ⟨_,T,P,O,h1,h2,h3,R,h5⟩=>by obtain⟨V,W,X,Y⟩:=P7 y u d h5;exact⟨T,P,O,h1,⟨by rw[h2,c.1];omega,by rw[h3,c.2.1];omega,by rw[R 2 (by decide)<|by decide];exact c.2.2.1,by rw[R 3 (by decide)<|by decide];exact c.2.2.2⟩,V,W,X,x.trans Y⟩
   clear L c y u d x D l E N Q e2 e3 b;go_wp2_with refine M.mono ?_;intro e I b;have l:=b.1;subst l;go_wp2;go_roundw;exact⟨i+1,by omega,by go_num,Z<|J I b⟩;simp[Zk];omega
  obtain rfl:i=o.length:=by omega
  rw[Wa]at u d x;obtain⟨va,vc,g,-⟩:=cz<|L.own 2 (by decide);rw[c.2.2.1]at g;have av:=lB L.box;have b7:=bC L.box 7;simp at b7;rw[g]at b7;have W:Ze<|KP (λb=>b<wr.heap.size) wr<|wr.alloc<|Kl m:=⟨rfl,rfl,rfl,by simp,λb l=>V2 _ _ _ l⟩;have aj:(wr.alloc<|Kl m).heap.size=wr.heap.size+1:=by simp
  have hA:=aM wr<|Kl m;have al:Ze<|Tr (wr.alloc<|Kl m) (wr.alloc<|Kl m) (.slice t o.length r) wr.heap.size 0<|df o:=⟨KP.refl _ _,rfl,by have:=y.alloc<|Kl m;simpa[zO,df]using this⟩;have HL:=Z L;have V:=Z c;have HO:=Z y;have HD:=Z d;have HS:=Z x;have q:(df o).length=o.length:=by simp[df]
  have E:=Z q;clear L c y u d x D g q;generalize wr=d at*;go_wp2;generalize d.alloc (Kl m)=w0 at*
  go_loopw [6] (λs wr=>∃i:Nat,i<=o.length/\s=.int .i64 (i:Nat)/\Ze (Tr w0 wr (.slice t o.length r) d.heap.size i<|df o)) (λs _=>o.length-(Zk s).toNat)
  exact⟨0,qO,rfl,al⟩;obtain⟨i,aw,rfl,D⟩:=hrel;by_cases ac:i<o.length
  .have q:=D.own;obtain⟨_,M⟩|⟨g,cap,I,e,_,F,_⟩:=q.2
   .rw[E]at M;omega
   injection e with e1 e2 e3;subst e1;obtain⟨u,R⟩:∃u,wr.cell? ⟨g,i,none⟩=some u:=by obtain⟨P,_,J,_,_,c⟩:=tG q (j:=i) (u:=(zO d.heap.size i++(df o).drop i)[i]'(by rw[VH,Wp,E];simp[zO];omega))<|VE _;injection J with e4 _ _;cases e4;exact⟨_,c⟩
   have N:=lB F;have Q:=bF F i;have O:((i:Nat):Int)<((o.length:Nat):Int):=by omega
   go_wp2;go_roundw;exact⟨i+1,by omega,by go_num,Z<|D.next<|E▸ac⟩;simp[Zk];omega
  obtain rfl:i=o.length:=by omega
  have y:=D.own;rw[Wo<|W_ E,WQ,E]at y;have g:Zb.ownBlock (.slice t o.length r)≠some d.heap.size:=λe=>by have:=(HO.lt _ e).2;omega
  have Q:=(D.d.block d.heap.size g).trans hA;have am:=lB Q;have aq:wr.heap.size=d.heap.size+1:=D.a.trans aj;have X:Ze<|KP (λb=>b<d.heap.size/\Zb.ownBlock (.slice t o.length r)≠some b) d wr:=W.go D.d λb l=>⟨l.1,l.2⟩;obtain⟨b1,n1,c1,w1,ag,F,ad,M⟩:=yo y (by omega) 1 (by decide) (by decide) 29;obtain⟨b2,n2,c2,w2,ah,I,ae,N⟩:=yo (M _ _ (by omega) y) (by omega) 2 (by decide) (by decide) 29;obtain⟨b3,n3,c3,T,ai,J,af,O⟩:=yo (N _ _ (by omega)<|M _ _ (by omega) y) (by omega) 3 (by decide) (by decide) 29;have an:=F.size;have ao:=I.size;have ap:=J.size;have R:=(J.block (by omega) g).trans<|(I.block (by omega) g).trans<|(F.block am g).trans Q;have Y:Ze<|KP (λb=>b<d.heap.size/\¬Zb.ownBlock (.slice t o.length r)=some b) d T:=((X.go F.d λb l=>⟨l,by omega,l.2⟩).go I.d λb l=>⟨l,by omega,l.2⟩).go J.d λb l=>⟨l,by omega,l.2⟩;obtain⟨L,x⟩:=HL.grow (H:=λb=>Zb.ownBlock (.slice t o.length r)=some b) (λb l=>⟨(HO.lt b l).2,HD b<|.inl l⟩) Y;have hF:∀u q,q<=2000000->T.ownsRow 0 32 1 u q (zO d.heap.size q)->(∀b,u.ownBlock=some b->Zb.ownBlock (.slice t o.length r)=some b\/d.heap.size<=b)->∀c,¬c<2->B8 T (λb=>G b\/(Zb.ownBlock (.slice t o.length r)=some b\/(d.heap.size<=b/\b<T.heap.size))) c m u:=λu q hq hu l c hc=>⟨q,hq,λb h=>.inr<|(l b h).imp id λh'=>⟨h',(hu.lt b h).2⟩,by rw[VF hc];exact⟨_,.inr<|.inr ⟨qZ,lB R⟩,R,hu⟩⟩;have F1:=Z<|hF _ _ (by omega) (O _ _ (by omega)<|N _ _ (by omega) ad) (λb h=>F.own.elim (λe=>.inl<|e▸h) λe=>.inr (by rw[e]at h;cases h;omega)) 3 (by decide);have F2:=Z<|hF _ _ (by omega) (O _ _ (by omega) ae) (λb h=>I.own.elim (λe=>.inl<|e▸h) λe=>.inr (by rw[e]at h;cases h;omega)) 3 (by decide);have F3:=Z<|hF _ _ (by omega) af (λb h=>J.own.elim (λe=>.inl<|e▸h) λe=>.inr (by rw[e]at h;cases h;omega)) 3 (by decide);generalize (λb=>G b\/(Zb.ownBlock (.slice t o.length r)=some b\/(d.heap.size<=b/\b<T.heap.size)))=F' at*;obtain⟨p0,p1,p2,x0,q0,q1,q2,x1,r0,r1,r2,x2,t0,t1,t2,x3,j5,j7,⟨R4,R5,R6,R7⟩,⟨y0,y1,y2,y3,y5,y7⟩,⟨u0,u1,u3,u5,u7⟩,⟨v0,v1,v2,v3⟩,au,ar,aa,l0,l1,l2,s7⟩:=L.four 2 7 8 56 29 (.inr rfl) rfl rfl rfl rfl V.2.2.1 V.2.2.2 (by omega) (Z<|hF _ _ (by omega) (O _ _ (by omega)<|N _ _ (by omega)<|M _ _ (by omega) y) (λb h=>.inl h) 2<|by decide) F1 F2 F3;have ab:pE d (λk=>LS p G K k\/HB (.slice t o.length r) [] k) T<|LS p F' K:=⟨⟨x.aL.os,x.aL.tape,x.aL.output,x.aL.size,λk hk=>x.aL.block k ⟨hk.1,λh=>hk.2<|h.imp id .inl⟩⟩,λk hk=>(x.new k hk).imp (λh=>h.imp id .inl) id⟩;have P:Ze<|DO w S0 p a z A B (n+o.length) (m+1) (.returned<|.tuple #[])<|x3.setCell ⟨p,8,none⟩<|.slice t0 t1 t2:=⟨rfl,F',au,ar,aa,⟨by rw[l2 0 (by decide)<|by decide];exact V.1,by rw[l2 1 (by decide)<|by decide];exact V.2.1,l0,l1⟩,(HS.trans ab).trans s7⟩;have R1:Ze<|(Builtin.append_ #[29,29] 29 #[.slice t o.length r,.slice (some ⟨wr.heap.size,0,none⟩) 1 1]).run prog (wr.alloc<|.cells #[.slice (some ⟨d.heap.size,0,none⟩) 1 1] 32)=.ok (.slice b1 n1 c1) w1:=ag;have R2:Ze<|(Builtin.append_ #[29,29] 29 #[.slice t o.length r,.slice (some ⟨w1.heap.size,0,none⟩) 2 2]).run prog (w1.alloc<|.cells #[.slice (some ⟨d.heap.size,0,none⟩) 1 1,.slice (some ⟨d.heap.size,0,none⟩) 1 1] 32)=.ok (.slice b2 n2 c2) w2:=ah;have R3:Ze<|(Builtin.append_ #[29,29] 29 #[.slice t o.length r,.slice (some ⟨w2.heap.size,0,none⟩) 3 3]).run prog (w2.alloc<|.cells #[.slice (some ⟨d.heap.size,0,none⟩) 1 1,.slice (some ⟨d.heap.size,0,none⟩) 1 1,.slice (some ⟨d.heap.size,0,none⟩) 1 1] 32)=.ok (.slice b3 n3 c3) T:=ai;clear ag ah ai L aa l0 l1 l2 s7 x ab F1 F2 F3 hF Y X M N O ad ae af F I J Q R y D HL V HO HD HS W g hA aq aj an ao ap;go_wp2_with (at_builtin;first|refine Lib.wpList_append_run _ rfl (.tmp 40) (.tmp 42) 29 29 rfl _ _ rfl rfl _ _ R1 ?_|refine Lib.wpList_append_run _ rfl (.tmp 44) (.tmp 47) 29 29 rfl _ _ rfl rfl _ _ R2 ?_|refine Lib.wpList_append_run _ rfl (.tmp 49) (.tmp 53) 29 29 rfl _ _ rfl rfl _ _ R3 ?_|refine Lib.wpList_append_run _ rfl (.tmp 59) (.tmp 61) 56 56 rfl _ _ rfl rfl _ _ R4 ?_|refine Lib.wpList_append_run _ rfl (.tmp 69) (.tmp 71) 56 56 rfl _ _ rfl rfl _ _ R5 ?_|refine Lib.wpList_append_run _ rfl (.tmp 79) (.tmp 81) 56 56 rfl _ _ rfl rfl _ _ R6 ?_|refine Lib.wpList_append_run _ rfl (.tmp 89) (.tmp 91) 56 56 rfl _ _ rfl rfl _ _ R7 ?_);exact WL (v:=.tuple #[]) (by simp[results,results140,go_sem]) rfl P
def JY.c(h:JY w u o):uU w (o.map (·.1)) u:=by refine uU.of (qy h.own λq g=>c7 (f:=vC) (λ_=>rfl) (h.rows.1 q g) qZ) λa n c e=>?_;obtain⟨i,j,b,d⟩:=cz h.own;rw[e]at b;cases b;exact d
def Oy{u1 u2:Zb}(c:br w w.heap.size 3 vC I u1)(d:br w w.heap.size 3 vC I u2)(H:I.length<=100000):
 Zc prog 92 #[u1,u2] w (qF (.bool true) w):=by
 have h:Ze (∀k,k<I.length->_):=λk hk=>c.val hk;have i:Ze (∀k,k<I.length->_):=λk hk=>d.val hk;obtain⟨D,F,y⟩:=c.slice;obtain⟨E,G,z⟩:=d.slice;subst y;subst z;have A:=P8;clear c d;go_in;go_wp2
 go_loopw [5] (λB C=>∃(k:Nat),k<=I.length/\B=qI (k:Nat)/\Ze (qB w C)) (λa _=>I.length-(Zk a).toNat)
 exact⟨0,qO,rfl,qW⟩
 case round=>
  obtain⟨k,hk,rfl,b⟩:=hrel;by_cases g:k<I.length
  .obtain⟨c,_,e,j,r,t,u⟩:=h.o k g;cases e;obtain⟨d,_,e,l,n,o,q⟩:=i.o k g;cases e;have r:=(b.cell (p:=⟨c,k*3,none⟩) j).trans r;have t:=(b.cell (p:=⟨c,k*3+1,none⟩) j).trans t;have u:=(b.cell (p:=⟨c,k*3+2,none⟩) j).trans u;have n:=(b.cell (p:=⟨d,k*3,none⟩) l).trans n;have o:=(b.cell (p:=⟨d,k*3+1,none⟩) l).trans o;have q:=(b.cell (p:=⟨d,k*3+2,none⟩) l).trans q;generalize I[k]=x at*;go_wp2;go_region;all_goals go_wp2_with fail
   all_goals
    go_roundw;exact⟨k+1,by omega,by go_num,b.drew⟩
    case measure=>simp[Zk];omega
  go_wp2;go_ret;exact⟨rfl,b⟩
def GO{wr:Za}(G:uU w N u)(H:uU w N z)(j:qB w wr)(J:∀r∈N,r.length<=100000)(n:i<N.length):∃(g k c1 h l c2:Nat)(A B:Y8)(q c t d:Nat),u=.slice (some ⟨g,k,none⟩) N.length c1/\z=.slice (some ⟨h,l,none⟩) N.length c2/\(∀p:dx wr,p.val.cell? ⟨g,k+i,none⟩=some (.slice A q c))/\(∀p:dx wr,p.val.cell? ⟨h,l+i,none⟩=some (.slice B t d)) /\
 Ze (∀p:dx wr,Zc prog 92 #[.slice A q c,.slice B t d] p.val λe o=>e=.returned (.bool true)/\∃P:dx wr,o=P.val):=by
 have b:N[i]?=some N[i]:=VE n;have a:N≠[]:=by rintro rfl;simp at n
 obtain⟨U,c1,E,_,K⟩:=G.below j;obtain⟨V,c2,F,_,L⟩:=H.below j;obtain⟨g,k,rfl,S,M⟩:=K a;obtain⟨h,l,rfl,T,O⟩:=L a;obtain⟨u1,c,x⟩:=M i _ b;obtain⟨u2,d,y⟩:=O i _ b;obtain⟨C,Q,rfl⟩:=x.slice;obtain⟨D,R,rfl⟩:=y.slice;exact⟨g,k,c1,h,l,c2,C,D,_,Q,_,R,E,F,λp=>dx.cell S c p,λp=>dx.cell T d p,λp=>(Oy (x.below p.d) (y.below p.d)<|J _<|VQ n).mono λe o ⟨I,j⟩=>⟨I,⟨o,p.d.trans<|j.mono p.d.size⟩,rfl⟩⟩
def Dw(h:uU w N u)(j:uU w N z)(H:N.length<=1048576)(t:∀r∈N,r.length<=100000):
 Zc prog 58 #[u,z] w (qF (.bool true) w):=by
 have n:Ze (∀wr,qB w wr->∀i,i<N.length->_):=λwr q i hi=>GO h j q t hi;obtain⟨B,c1,rfl,_,_⟩:=h;obtain⟨C,c2,rfl,_,_⟩:=j;have k:∀(a:Y_) (w:Za),(Zi 92 a).run prog w=.ok (.enter 92 a) w:=λa w=>by go_simp
 go_in;go_wp2
 go_loopw [5] (λA wr=>∃(i:Nat),i<=N.length/\A=qI (i:Nat)/\Ze (qB w wr)) (λa _=>N.length-(Zk a).toNat)
 exact⟨0,qO,rfl,qW⟩
 case round=>
  obtain⟨i,hi,rfl,c⟩:=hrel;by_cases e:i<N.length
  .obtain⟨F,K,_,G,L,_,P,Q,I,D,J,E,o,p,M,O,l⟩:=n.o wr c i e;cases o;cases p;have x:(i:Int)<(N.length:Int):=by omega
   go_wp2;have y:Inhabited<|dx wr:=dx.first wr;refine eV (by kernel_rfl) (by kernel_rfl) ?_;repeat (go_big_quiet_step (exact l _))
   refine wpQuiet_nil ?_;intro _ g;obtain⟨pb,b⟩:=g;subst b;have d:=Z<|c.trans<|pb.d.mono c.size;generalize pb.val=W at*;go_wp2;go_roundw;exact⟨i+1,by omega,by go_num,d⟩;simp[Zk];omega
  go_wp2;go_ret;exact⟨rfl,c⟩
def Ux(c:Int)(C:uU w N u)(D:uU w N z)(hl:N.length<=1048576)(L:∀r∈N,r.length<=100000):
 Zc prog 88 #[.agg #[u,qI c],.agg #[z,qI c]] w (qF (.bool true) w):=by
 have H:Ze (∀wr,qB w wr->∀i,i<N.length->_):=λwr K i hi=>GO C D K L hi;obtain⟨g,c1,rfl,_,_⟩:=C;obtain⟨n,c2,rfl,_,_⟩:=D;have E:∀(a:Y_) (w:Za),(Zi 92 a).run prog w=.ok (.enter 92 a) w:=λa w=>by go_simp
 have q:=bA (aM w<|.cells #[.slice g N.length c1,qI c] 36)<|.cells #[.slice n N.length c2,qI c] 36;have hB:=aM (w.alloc<|.cells #[.slice g N.length c1,qI c] 36)<|.cells #[.slice n N.length c2,qI c] 36;have y:qB w<|(w.alloc<|.cells #[.slice g N.length c1,qI c] 36).alloc<|.cells #[.slice n N.length c2,qI c] 36:=(qA).alloc (by simp) _;have x:(w.alloc<|.cells #[.slice g N.length c1,qI c] 36).heap.size=w.heap.size+1:=by simp
 rw[x]at hB;generalize O:(w.alloc<|.cells #[.slice g N.length c1,qI c] 36).alloc (.cells #[.slice n N.length c2,qI c] 36)=S at*;have F:=Z q;have HB:=Z hB;have b:=Z y;have l:=bC q 0;have I:=bC q;have o:=bC hB 0;have T:=bC hB;simp at l I o;go_in;go_wp2
 go_loopw [5] (λR wr=>∃(i:Nat),i<=N.length/\R=qI (i:Nat)/\Ze (qB S wr)) (λa _=>N.length-(Zk a).toNat)
 exact⟨0,qO,rfl,qW⟩
 case round=>
  obtain⟨i,hi,rfl,e⟩:=hrel;have h:=bB e (lB q) F;have j:=bB e (lB hB) HB;have l:=bC h 0;have o:=bC j 0;simp at l o;have d:=Z<|b.trans<|e.mono b.size;by_cases A:i<N.length
  .obtain⟨X,o1,_,Y,o2,_,x1,x2,n1,U,n2,V,x,J,p1,p2,G⟩:=H.o wr d i A;cases x;cases J;have M:(i:Int)<(N.length:Int):=by omega
   have pa:=λp=>dx.cell (lB h) l p;have Q:=λp=>dx.cell (lB j) o p;go_wp2;have P:Inhabited<|dx wr:=dx.first wr;refine eV (by kernel_rfl) (by kernel_rfl) ?_;repeat (go_big_quiet_step (exact G _))
   refine wpQuiet_nil ?_;intro _ B;obtain⟨pb,k⟩:=B;subst k;have t:=Z<|e.trans<|pb.d.mono e.size;generalize pb.val=W at*;go_wp2;go_roundw;exact⟨i+1,by omega,by go_num,t⟩;simp[Zk];omega
  go_wp2;go_ret;exact⟨rfl,d⟩
