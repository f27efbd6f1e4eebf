import Derived.Lib.AppendZeros
import Derived.Test.YtojdpjpldokjmaaGreatDoorC10
import Derived.Test.YtojdpjpldokjmaaGreatDoorC09
set_option maxHeartbeats 0
set_option maxRecDepth 100000
set_option linter.all false
namespace Go.Proofs.YtojdpjpldokjmaaGreatDoor
open Go.Deep Go.RowKit Tryz
open Go renaming World->Za,Value->Zb,Calls->Zc,TypeId->Zf,Ending->Zg,results->Zh,callFunc->Zi,maxLen->Zj
open RowKit renaming Below->Zd,Hid->Ze,intOf->Zk
variable{W w x:World}{i j k n:Nat}{I J:YW}{A B C u z:Value}{F:YY}{L b:Bool}{R:aA}{e o p:YZ}{N O Q:List YW}{h r:List (ay×Value)}{X:YX}{K:aI}{G:Y7}{g:Y5}{a:Int}
def Np(n:Nat)(x:n<=100000)(w:Za):Zc prog 257 #[qN,qI (n:Int)] w λe o=>qB w o/\∃v,e=.returned v/\o.ownsRow w.heap.size 34 3 v 0 []:=by
 by_cases p:n=0
 .subst p;go_in;go_wp2;go_ret;exact⟨qW,_,rfl,VP _ _ _ _⟩
 obtain⟨t,hi,d,g,h⟩:=V5 mK;have a:=λu=>Lib.run_append_nil_zeros (P:=prog) w 32 3 u 34 t (.agg #[qI 0,qI 0,.string ⟨#[]⟩]) .i64 .i64 underlying32 (by kernel_rfl) hi d n (by omega) (by rw[g];omega) (by omega) (by rw[h];omega);obtain⟨G,i⟩:∃G,G=grownCap w n 0 34:=⟨_,rfl⟩;have q:n<=G:=by rw[i];exact grownCap_ge w _ _ _
 have c:G<=Zj:=by rw[i];exact grownCap_le_maxLen w n 0 _ (by unfold Zj;omega)
 rw[<-i]at a;have l:G<=9223372036854775807:=by unfold Zj at c;omega
 have r:(0:Int)<(n:Int):=by omega
 obtain⟨C,k⟩:∃C,C=Builtin.zeroCells (Zb.agg #[qI 0,qI 0,.string ⟨#[]⟩]).cells n++Builtin.zeroCells (Zb.agg #[qI 0,qI 0,.string ⟨#[]⟩]).cells (G-n):=⟨_,rfl⟩;have b:C.size=G*3:=by
  rw[k,Array.size_append,size_zeroCells,size_zeroCells];have:(Zb.agg #[qI 0,qI 0,.string ⟨#[]⟩]).cells.size=3:=rfl;rw[this,<-YU]
  congr 1
  omega
 rw[<-k]at a;have j:=Z b;clear k b i hi d g h;go_in;go_wp2_with (at_builtin;refine Lib.wpList_append_run _ rfl (.tmp 20) (.tmp 21) 32 3 rfl _ _ rfl rfl _ _ (a _) ?_);go_ret;refine⟨(qW.drew).alloc qZ _,_,rfl,⟨rfl,.inr ⟨w.heap.size,G,C,rfl,qZ,iL _ _ rfl,qO,c,j,by simp⟩⟩⟩
def oJ(w:Za)(hi:Nat)(row:YW)(v:Zb):Prop:=∃g cap,v=qL g row.length cap/\g<hi/\∀i u,(c_ row)[i]?=some u->w.cell? ⟨g,i,none⟩=some u
def oJ.aL{w':Za}{v:Zb}(h:oJ w n I v)(d:∀k,k<n->w'.heap[k]?=w.heap[k]?):oJ w' n I v:=by obtain⟨g,cap,b,a,c⟩:=h;exact⟨g,cap,b,a,λi u e=>(VK<|d g a).trans<|c i u e⟩
def oJ.more{v:Zb}(h:oJ w n I v)(d:n<=k):oJ w k I v:=by obtain⟨g,cap,a,c,b⟩:=h;exact⟨g,cap,a,by omega,b⟩
def oJ.below{v:Zb}(h:oJ w w.heap.size I v)(a:qB w W):oJ W W.heap.size I v:=(h.aL λk hk=>a.block k hk).more a.size
def iJ{e:Zf}{g b:Nat}{l:Y0}(h:w.ownsRow k e j (qL g n b) n l):g<w.heap.size/\∀i u,l[i]?=some u->w.cell? ⟨g,i,none⟩=some u:=by
 obtain⟨h,_⟩|⟨r,c,o,q,_,d,_,_,_,p⟩:=h.2
 .cases h
 cases q;refine⟨lB d,λi u a=>?_⟩;rw[<-p,V6]at a;split at a
 .rw[bC d];simpa using a
 cases a
def oJ.own{v:Zb}(h:w.ownsRow n 34 3 v I.length<|c_ I)(a:I≠[]):oJ w w.heap.size I v:=by
 obtain⟨_,c⟩|⟨g,cap,b,rfl,_⟩:=h.2
 .exact absurd (V3.1 c) a
 obtain⟨d,e⟩:=iJ h;exact⟨g,cap,rfl,d,e⟩
def yv(a:YW):∀u∈c_ a,u.oneCell'=true:=by intro u b;unfold c_ at b;obtain⟨x,_,c⟩:=XJ.1 b;exact EP x u c
def DM(w:Za)(row:YW)(e:Zg)(w':Za):Prop:=qB w w'/\∃v,e=.returned v/\w'.ownsRow w.heap.size 34 3 v row.length (c_ row)
def Pg(w wr:Za)(a b:YW)(i:Nat)(v:Zb):Prop:=qB w wr/\wr.ownsRow w.heap.size 34 3 v (if i=0 then []else if i=1 then a else a++b).length (c_ (if i=0 then []else if i=1 then a else a++b))
def J5(c:Nat)(N:oJ w w.heap.size I z)(O:oJ w w.heap.size J A)(G:w.heap[n]?=some (.cells #[z,A] 32))(hl:I.length+J.length<=1000):
 Zc prog 227 #[qL n 2 c] w (DM w<|I++J):=by
 have T:=Z N;have HB:=Z O;obtain⟨X,V,rfl,aa,_⟩:=N;obtain⟨Y,W,rfl,ab,_⟩:=O;have s0:=bC G;have C:=Z G;have M:=Np (I.length+J.length) (by omega) w;rw[YB]at M;have U:=Z M;have ad:wrap64 ((I.length:Int)+(J.length:Int))=I.length+J.length:=by unfold wrap64;omega
 obtain⟨R,hi,q,r,t⟩:=V5 mK;go_in;go_wp2
 go_loop [3,11] (λL o=>(o=qI 0/\L=qI 0)\/(o=qI 1/\L=qI I.length)\/(o=qI 2/\L=qI ((I.length:Int)+(J.length:Int)))) (λ_ I=>2-(Zk I).toNat)
 exact .inl ⟨rfl,rfl⟩
 case round=>
  obtain⟨rfl,rfl⟩|⟨rfl,rfl⟩|⟨rfl,rfl⟩:=hrel
  .go_wp2;go_round;exact .inr<|.inl ⟨rfl,by simp⟩;simp[Zk]
  .go_wp2;go_round;exact .inr<|.inr ⟨rfl,rfl⟩;simp[Zk]
  go_wp2_with fail;refine U.mono ?_;rintro e w1⟨D,v1,rfl,d⟩;have y:Ze<|Pg w w1 I J 0 v1:=⟨D,by simpa[c_]using d⟩;obtain⟨ae,ag,af,rfl⟩:=aF d;go_wp2
  go_loopw [6,27] (λs6 K wr=>∃i:Nat,i<=2/\K=qI i/\Ze (Pg w wr I J i s6)) (λ_ s _=>2-(Zk s).toNat)
  exact⟨0,by omega,rfl,y⟩;obtain⟨i,ac,rfl,x⟩:=hrel;obtain⟨(b:Ze _),a⟩:=x.o;obtain⟨va,vn,vc,rfl⟩:=aF a;have g:=b.size;have p:=bB b (lB G) C;have r0:=bC p;have Q:=lB p;have h:i=0\/i=1\/i=2:=by omega
  obtain rfl|rfl|rfl:=h
  .obtain⟨g1,c1,H,_,E⟩:=T.aL λk hk=>b.block k hk;cases H;simp only[if_true]at a;go_wp2_with (at_builtin;refine VS _ rfl (.tmp 31) (.tmp 32) 32 rfl w.heap.size 34 R _ 3 32 underlying32 hi q r t rfl (by decide) _ _ _ rfl a ⟨X,0,none⟩ I.length V (c_ I) rfl ?c0 ?c1 ?c2 ?c3 ?c4 ?c5 ?_)
   case c0=>exact kB I
   case c1=>intro j u S;rw[addr_add];exact E j u S
   case c2=>exact yv I
   case c3=>unfold Zj;simp;omega
   case c4=>simp;omega
   case c5=>exact g
   intro v' w4 l F P;have B:Ze<|Pg w w4 I J 1 v':=⟨a_ x.1 F (λk hk=>(a.lt k hk).1) g,by simpa[c_]using l⟩;go_wp2;go_roundw;exact⟨1,by omega,by go_num,B⟩;simp[Zk]
  .obtain⟨g1,c1,H,_,E⟩:=HB.aL λk hk=>b.block k hk;cases H;simp only[if_true,Nat.one_ne_zero,if_false]at a;go_wp2_with (at_builtin;refine VS _ rfl (.tmp 31) (.tmp 32) 32 rfl w.heap.size 34 R _ 3 32 underlying32 hi q r t rfl (by decide) _ _ _ rfl a ⟨Y,0,none⟩ J.length W (c_ J) rfl ?c0 ?c1 ?c2 ?c3 ?c4 ?c5 ?_)
   case c0=>exact kB J
   case c1=>intro j u hj;rw[addr_add];exact E j u hj
   case c2=>exact yv J
   case c3=>unfold Zj;omega
   case c4=>omega
   case c5=>exact g
   intro v' S l F P
   have B:Ze<|Pg w S I J 2 v':=⟨a_ x.1 F (λk hk=>(a.lt k hk).1) g,by
    show S.ownsRow _ _ _ _ (I++J).length (c_<|I++J)
    rw[pS,VH];exact l⟩
   go_wp2;go_roundw;exact⟨2,by omega,by go_num,B⟩;simp[Zk]
  have j:Ze<|wr.ownsRow w.heap.size 34 3 (.slice va vn vc) (I++J).length<|c_<|I++J:=a;go_wp2;go_ret;exact⟨b,_,rfl,j⟩
def ql(left:Bool)(n:Nat)(r:YW)(z:List YW):List YW:=if (left&&z.isEmpty)=true then [r++List.replicate n aE]else z
def Kp:∀(n i:Nat),i<n*3->(c_<|List.replicate n aE)[i]?=(vC aE)[i % 3]?
 |0,i,h=>by omega
 |n+1,i,h=>by
  show(vC aE++c_ (List.replicate n aE))[i]?=_;by_cases hi:i<3
  .rw[VU<|by exact hi,Nat.mod_eq_of_lt hi]
  rw[VW (by show 3<=i;omega)];show(c_<|List.replicate n aE)[i-3]?=_;rw[Kp n (i-3)<|by omega]
  congr 1
  omega
def Lx(n:Nat):(madeCells #[qI 0,qI 0,.string ⟨#[]⟩]<|n*3).toList=c_ (List.replicate n aE):=by
 apply WX;intro i;by_cases hi:i<n*3
 .rw[Kp n i hi];have a:i % 3=0\/i % 3=1\/i % 3=2:=by omega
  unfold madeCells;simp only[Array.getElem?_toList];obtain h|h|h:=a<;>simp[h,hi,vC,aE]
 rw[V7 (by unfold madeCells;simp;omega),V7 (by rw[kB];simp;omega)]
def Sw(r:Bool){o:Y8}(t:Y8)(x u:Nat)(p:i<w.heap.size)(y:w.cell? ⟨i,1,none⟩=some (.slice o n j))(z:n<=1000):
 Zc prog 228 #[.agg #[qP i,.bool r,.slice t x u]] w (DM w<|List.replicate n aE):=by
 obtain⟨q,hi,c,d,e⟩:=V5 mK;go_in;go_wp2_with (at_make;refine wpList_make_full _ rfl _ _ 32 rfl w.heap.size 34 q (.agg #[qI 0,qI 0,.string ⟨#[]⟩]) 3 underlying32 hi c d .i64 .i64 _ _ n rfl rfl rfl rfl ?c1 ?c2 ?c3 ?_)
 case c1=>rw[e];omega
 case c2=>unfold Zj;omega
 case c3=>simp
 intro g a b;have l:Ze<|g.ownsRow w.heap.size 34 3 (qL (w.heap.size+1) n n) (List.replicate n aE).length<|c_<|List.replicate n aE:=by unfold Ze;rw[Lx]at a;simpa using a
 have HB:Ze<|qB w g:=a_ qA b (λk h=>by cases h) (by simp);clear a b;go_wp2;go_ret;exact⟨HB,_,rfl,l⟩
structure zI(w:Za)(hi:Nat)(ab:YY)(tn:Nat)(lf:Bool)(c:aA)(qs:YZ)(n:Nat)(cv:Zb):Prop where
 prog:i7 w hi ab c cv
 b:tn<hi
 rows:∃rv,w.cell? ⟨tn,2,none⟩=some rv/\br w hi 1 (λp=>[p.2]) qs rv
 each:∀q∈qs,oJ w hi q.1 q.2
 a:∃ca cc,w.cell? ⟨tn,1,none⟩=some (.slice ca n cc)
def zI.aL{w':Za}(h:zI w i F j b R o n u)(a:∀k,k<i->w'.heap[k]?=w.heap[k]?):zI w' i F j b R o n u:=by obtain⟨g,c,⟨rv,l,p⟩,r,⟨d,e,t⟩⟩:=h;exact⟨g.aL a,c,⟨rv,(VK<|a j c).trans l,p.aL a⟩,λq x=>(r q x).aL a,⟨d,e,(VK<|a j c).trans t⟩⟩
def ny(wr:Za)(base:Nat)(v:Zb)(js:YZ):Prop:=wr.ownsRow base 32 1 v js.length (df js)/\∀j∈js,wr.ownsRow base 34 3 j.2 j.1.length (c_ j.1)/\j.1≠[]
def ny.below{base:Nat}{v:Zb}(h:ny w base v o)(a:qB w W):ny W base v o:=⟨aB a h.1,λj b=>⟨aB a (h.2 j b).1,(h.2 j b).2⟩⟩
def ny.push{v u:Zb}(h:ny w n v o)(e:w.ownsRow n 34 3 u I.length<|c_ I)(c:I≠[])(b:W.ownsRow n 32 1 z (o.length+1)<|df o++[u])(d:w.grownBy W v.ownBlock):ny W n z<|o++[(I,u)]:=by
 refine⟨by simpa[df]using b,λj a=>?_⟩;obtain a|a:=V1.1 a
 .exact⟨eU (h.2 j a).1 h.1 d<|by decide,(h.2 j a).2⟩
 simp at a;subst a;exact⟨eU e h.1 d<|by decide,c⟩
def Lz(acc:List YW)(left:Bool)(n:Nat)(r:YW)(rest:aV<|List YW):aV (List YW)->aV (List YW)
 |.error e=>.error e
 |.ok z=>ie (acc++ql left n r z) rest
def Ec{left:Bool}:ie Q (aR F R left n N<|I::O)=Lz Q left n I (aR F R left n N O) (bd F R I N):=by
 rw[aR];cases bd F R I N with
 |error e=>rfl
 |ok z=>
  simp only;cases aR F R left n N O with
  |error e=>rfl
  |ok y=>simp[ie,Lz,ql]
def At{e:Nat}(h:bZ F (I++J) R=.error e):bd F R I (J::N)=.error e:=by rw[bd,h]
def Ib{v:ai}(h:bZ F (I++J) R=.ok v)(a:v=bh true):ie O (bd F R I<|J::N)=ie (O++[I++J]) (bd F R I N):=by
 rw[bd,h];simp only;cases bd F R I N with
 |error e=>rfl
 |ok z=>simp only[VG a,ie];simp
def KV{v:ai}(h:bZ F (I++J) R=.ok v)(a:¬v=bh true):ie O (bd F R I<|J::N)=ie O (bd F R I N):=by
 rw[bd,h];simp only;cases bd F R I N with
 |error e=>rfl
 |ok z=>simp only[VF a,ie]
def Ah(w:Za)(o:aV<|List YW)(e:Zg)(w':Za):Prop:=qB w w' /\
 ((∃er,o=.error er/\e=.returned (.tuple #[qN,qI (er:Nat)])) \/
  (∃js v,o=.ok (js.map (·.1))/\e=.returned (.tuple #[v,qI 0])/\ny w' w.heap.size v js))
structure EZ(w wr:Za)(O:Obj)(o:aV<|List YW)(ab:YY)(c:aA)(lf:Bool)(n:Nat)(qs ps:YZ)(i:Nat)(v:Zb)(js:YZ):Prop where
 d:Zd (w.heap.size+1) (w.alloc O) wr
 row:ny wr (w.heap.size+1) v js
 len:js.length<=i*26
 e:o=ie (js.map (·.1)) (aR ab c lf n (qs.map (·.1))<|(ps.drop i).map (·.1))
structure tP(w wr:Za)(O:Obj)(o:aV<|List YW)(ab:YY)(c:aA)(lf:Bool)(n:Nat)(qs ps:YZ)(i b:Nat)(r:YW)(k:Nat)(v:Zb)(js:YZ):Prop where
 d:Zd (w.heap.size+1) (w.alloc O) wr
 row:ny wr (w.heap.size+1) v js
 len:js.length<=i*26+k
 at_:b<=js.length
 e:o=Lz ((js.take b).map (·.1)) lf n r (aR ab c lf n (qs.map (·.1))<|(ps.drop<|i+1).map (·.1)) (ie ((js.drop b).map (·.1))<|bd ab c r<|(qs.drop k).map (·.1))
def Lv{wr:Za}{O:Obj}(a:Zd (w.heap.size+1) (w.alloc O) wr):qB w wr/\wr.heap[w.heap.size]?=some O/\w.heap.size+1<=wr.heap.size:=by have b:=a.size;simp at b;refine⟨((VM w.heap.size w).alloc qZ O).trans<|a.mono<|Xn _,?_,b⟩;rw[a.block _<|WC _];exact aM _ _
def tP.fin{wr:Za}{O:Obj}{o:aV (List YW)}{v:Zb}{a:YZ}(h:tP w wr O o F R L n p e i k I p.length v a):o=ie ((a.take k).map (·.1)++ql L n I ((a.drop k).map (·.1))) (aR F R L n (p.map (·.1))<|(e.drop<|i+1).map (·.1)):=by rw[h.e,Wa];simp[bd,ie,Lz]
def tP.done{wr:Za}{O:Obj}{o:aV (List YW)}{c:YZ}{v:Zb}{b:YZ}(h:tP w wr O o F R L n p c i k I p.length v b)(g:p.length<=25)(a:k<b.length\/L=false):EZ w wr O o F R L n p c (i+1) v b:=by
 refine⟨h.d,h.row,by have:=h.len;omega,?_⟩;have d:ql L n I ((b.drop k).map (·.1))=(b.drop k).map (·.1):=by
  unfold ql;rw[VF];obtain a|a:=a
  .have:b.drop k≠[]:=by intro e;have:=Wd List.length e;simp at this;omega
   simp[List.isEmpty_iff,this];intro _;omega
  simp[a]
 rw[h.fin,d,<-Wc,WA]
def tP.left{wr:Za}{O:Obj}{o:aV (List YW)}{v:Zb}{a:YZ}(h:tP w wr O o F R true n p e i a.length I p.length v a)(g:p.length<=25)(b:Zd (w.heap.size+1) (w.alloc O) W)(d:ny W (w.heap.size+1) z<|a++[(I++List.replicate n aE,u)]):EZ w W O o F R true n p e (i+1) z<|a++[(I++List.replicate n aE,u)]:=by
 refine⟨b,d,by have:=h.len;simp;omega,?_⟩;have c:ql true n I ((a.drop a.length).map (·.1))=[I++List.replicate n aE]:=by simp[ql]
 rw[h.fin,c];simp
def TZ(X:dD)(r:Bool){b d:YZ}{H:Nat}(c:zI w w.heap.size F H r R b n z)(g:br w w.heap.size 1 (λp=>[p.2]) d A)(h:∀p∈d,oJ w w.heap.size p.1 p.2)(hf:gR F R)(i:∀p∈d,∀q∈b,ke F<|p.1++q.1)(j:∀p∈d,p.1.length<=100)(k:∀q∈b,q.1.length<=100/\q.1≠[])(bm:1<=n)(hn:n<=100)(bn:d.length<=20000)(ag:b.length<=25):
 Zc prog 173 #[.agg #[qP H,.bool r,z],A] w (Ah w<|aR F R r n (b.map (·.1))<|d.map (·.1)):=by
 obtain⟨ra,rc,rfl⟩:=g.slice;obtain⟨y,C,B,rfl⟩:=c.prog.slice;obtain⟨i0,hi,aw,ax,ay⟩:=V5 iN;have av:=c.b;have G:=Z c;have ac:=Z g;have L:=Z h;have ab:=Z i;have aj:=Z j;have aH:=Z k;obtain⟨qv,T,a⟩:=c.rows;obtain⟨qa,qc,rfl⟩:=a.slice;have aI:=Z a;have aJ:=Z T;generalize l:aR F R r n (b.map (·.1)) (d.map (·.1))=o;have HO:=Z l;clear c g h i j k T a l;generalize hO:Obj.cells #[qP H,.bool r,.slice y C B] 284=O;have c:Ze<|EZ w (w.alloc O) O o F R r n b d 0 qN []:=⟨qW,⟨VP _ _ _ _,by simp⟩,by simp,by rw[<-HO];simp;cases aR F R r n (b.map (·.1)) (d.map (·.1))<;>simp[ie]⟩;have bc:=Z hO;subst hO;go_in;go_wp2;go_step3;go_wp2;go_step3;go_wp2;generalize hO:Obj.cells #[qP H,.bool r,.slice y C B] 284=O at*
 go_loopw [6,7,18] (λs6 s7 aX wr=>∃(i:Nat) (D:YZ),i<=d.length/\aX=qI i/\s7=qI 0/\Ze (EZ w wr O o F R r n b d i s6 D)) (λ_ _ a _=>d.length-(Zk a).toNat)
 exact⟨0,[],qO,rfl,rfl,c⟩
 case round=>
  obtain⟨i,D,bj,rfl,rfl,J⟩:=hrel;clear c;obtain⟨U,N,bf⟩:=Lv J.d;have bp:w.heap.size<wr.heap.size:=by omega
  subst hO;have bx:=λk=>bC N k;have an:=bx 0;have ao:=bx 1;have ap:=bx 2;simp at an ao ap;clear bx;obtain⟨a2,az,a3,rfl⟩:=aF J.row.1;by_cases af:i<d.length
  .have aS:d[i]?=some d[i]:=VE af;have HD:Ze<|d.drop i=d[i]::d.drop (i+1):=VJ af;have c:=VQ af;generalize d[i]=p at*;obtain⟨E,pv⟩:=p;obtain⟨g,cap,he,hg,e0⟩:=(ac.aL λk hk=>U.block k hk).c aS;cases he;have bi:g<wr.heap.size:=by omega
   simp only at e0;have al:=Z<|L _ c;obtain⟨pg,pc,au,_⟩:=L.o _ c;simp only at au;subst au;have bo:wr.cell? ⟨H,2,none⟩=some (.slice qa b.length qc):=(VK<|U.block H av).trans aJ;have a9:H<wr.heap.size:=by omega
   have M:=Z c;have h:Ze<|tP w wr (.cells #[qP H,.bool r,.slice y C B] 284) o F R r n b d i D.length E 0 (.slice a2 az a3) D:=by refine⟨J.d,J.row,by have:=J.len;omega,qZ,?_⟩;rw[J.e,HD,We,Ec];simp only[Wj,Wa,Yw,WG];cases bd F R E (b.map (·.1))<;>simp[ie]
   have aP:az=D.length:=by obtain⟨l,t,j,_⟩:=cz J.row.1;cases j;rfl
   have a8:=J.len;clear U N c;obtain⟨wo,rfl⟩:∃wo:Za,wo=wr:=⟨_,rfl⟩;subst aP;go_wp2;go_step3;go_wp2;go_step3;go_wp2
   go_loopw [6,7,30] (λs6 s7 aY wr=>∃(k:Nat) (K:YZ),k<=b.length/\aY=qI k/\s7=qI 0/\Ze (tP w wr (.cells #[qP H,.bool r,.slice y C B] 284) o F R r n b d i D.length E k s6 K)) (λ_ _ a _=>b.length-(Zk a).toNat)
   exact⟨0,D,qO,rfl,rfl,h⟩;obtain⟨k,K,bk,rfl,rfl,c⟩:=hrel;clear h;obtain⟨t,l,P⟩:=Lv c.d;have bb:w.heap.size<wr.heap.size:=by omega
   have a6:=bC l;obtain⟨aZ,a1,a0,rfl⟩:=aF c.row.1;obtain rfl:a1=K.length:=by obtain⟨j,u,h,_⟩:=cz c.row.1;cases h;rfl
   have bl:=c.len;by_cases ae:k<b.length
   .have aT:b[k]?=some b[k]:=VE ae;have aa:Ze<|b.drop k=b[k]::b.drop (k+1):=VJ ae;have V:=VQ ae;generalize b[k]=q at*;obtain⟨qr,qv⟩:=q;obtain⟨g2,a4,aO,bg,f0⟩:=(aI.aL λk hk=>t.block k hk).c aT;cases aO;have a7:g2<wr.heap.size:=by omega
    simp only at f0;obtain⟨qg,aW,T,_⟩:=G.each _ V;simp only at T;subst T;have u:qB wr<|wr.alloc<|.cells #[qL pg E.length pc,qL qg qr.length aW] 32:=qA;have j:=aj.o _ M;have h:=aH.o _ V;have S:=Z<|J5 2 ((al.below t).below u) (((G.each _ V).below t).below u) (aM _ _) (by simp only at j h ⊢;omega);have ah:=Z u;have aq:=ab.o _ M _ V;have ak:=Z h.2;simp only at aq;clear u t l j h;go_wp2_with refine S.mono ?_;rintro e w2⟨Y,u,rfl,hu⟩;have Q:qB wr w2:=ah.trans<|Y.mono ah.size;have x:br w2 w2.heap.size 3 vC (E++qr) u:=c7 (f:=vC) (λ_=>rfl) hu qZ;have W:qB w w2:=(Lv c.d).1.trans<|Q.mono (by omega);have j:=Z<|IC X (G.prog.below W) x hf aq;obtain⟨ua,un,uc,rfl⟩:=aF hu;have h:=bB Q (by omega) (Lv c.d).2.1;have be:=bC h;have ba:=lB h;have HU:=Z hu;have I:=Z Q;clear Y x W h hu Q S;cases hev:bZ F (E++qr) R with
    |error Q=>
     have W:((Q:Int) != 0)=true:=by have:=jc hev;simp;omega
     rw[hev]at j;have S:Ze<|o=.error Q:=by rw[Ze,c.e,aa,We,At hev];rfl
     simp only[uh]at j;clear hev;go_wp2_with apply qR j;intro Y h;have x:Ze<|qB w Y:=((Lv c.d).1.trans<|I.mono<|by omega).trans<|h.mono (by have:=I.size;omega);clear h j;go_wp2;rw[Exit.noGoto_exit];go_wp2
     (try rw[Exit.noGoto_ret])
     go_ret2;exact⟨x,.inl ⟨Q,S,rfl⟩⟩
    |ok x=>
     rw[hev]at j;simp only[uh]at j;by_cases W:x=bh true
     ·rw [ai.d W]at j;have aD:Ze<|o=Lz (((K++[(E++qr,(.slice ua un uc:Zb))]).take D.length).map (·.1)) r n E (aR F R r n (b.map (·.1))<|(d.drop<|i+1).map (·.1)) (ie (((K++[(E++qr,(.slice ua un uc:Zb))]).drop D.length).map (·.1))<|bd F R E<|(b.drop<|k+1).map (·.1)):=by
       unfold Ze;rw[c.e,aa,We,Ib hev W];rw[WY c.at_,Xb c.at_];simp
      clear hev W;go_wp2_with apply qR j;intro w3 h;have Y:=Z<|I.trans<|h.mono I.size;have aK:=Z<|aB h HU;have aU:wr.heap.size<=w3.heap.size:=Y.size;have Q:=aB Y c.row.1;clear h j;go_wp2_with (at_builtin;refine VS _ rfl (.tmp 52) (.tmp 54) 29 rfl (w.heap.size+1) 32 i0 _ 1 24 underlying29 hi aw ax ay rfl (by decide) _ _ _ rfl (Q.alloc _) ⟨w3.heap.size,0,none⟩ 1 1 [.slice ua un uc] rfl rfl ?c1 ?c2 ?c3 ?c4 ?c5 ?_)
      case c1=>exact cW w3 [.slice ua un uc] 32
      case c2=>intro x W;simp at W;subst W;rfl
      case c3=>unfold Zj;omega
      case c4=>omega
      case c5=>simp;omega
      intro v' w4 S ad ar;have aG:Ze<|tP w w4 (.cells #[qP H,.bool r,.slice y C B] 284) o F R r n b d i D.length E (k+1) v'<|K++[(E++qr,.slice ua un uc)]:=by have am:qB wr<|w3.alloc<|.cells #[.slice ua un uc] 32:=Y.alloc aU _;refine⟨a_ (c.d.trans<|am.mono P) ad (λk hk=>(c.row.1.lt k hk).1) (by simp;omega),(c.row.below am).push (bU (aK.alloc _) (by simp;omega)) (by intro h;exact ak (List.append_eq_nil_iff.1 h).2) S ad,by simp;omega,by have:=c.at_;simp;omega,aD⟩
      clear Q S ad ar;go_wp2;go_roundw;exact⟨k+1,_,by omega,by go_num,rfl,aG⟩;simp[Zk];omega
     rw[ai.l W]at j;have S:Ze<|o=Lz ((K.take D.length).map (·.1)) r n E (aR F R r n (b.map (·.1))<|(d.drop<|i+1).map (·.1)) (ie ((K.drop D.length).map (·.1))<|bd F R E<|(b.drop<|k+1).map (·.1)):=by unfold Ze;rw[c.e,aa,We,KV hev W]
     clear hev W;go_wp2_with apply qR j;intro Y Q;have h:=I.trans<|Q.mono I.size;have W:Ze<|tP w Y (.cells #[qP H,.bool r,.slice y C B] 284) o F R r n b d i D.length E (k+1) (.slice aZ K.length a0) K:=
      ⟨c.d.trans<|h.mono P,c.row.below h,by omega,c.at_,S⟩
     clear Q h j;go_wp2;go_roundw;exact⟨k+1,_,by omega,by go_num,rfl,W⟩;simp[Zk];omega
   obtain rfl:k=b.length:=by omega
   by_cases a5:(D.length:Int)<(K.length:Int)
   .have h:=Z<|c.done ag<|.inl (by omega);clear t l;go_wp2;rw[Exit.noGoto_exit];go_wp2;exact⟨⟨i+1,_,by omega,by go_num,rfl,h⟩,by simp[Zk];omega⟩
   obtain aQ:D.length=K.length:=by have:=c.at_;omega
   cases hlf:r with
   |false=>
    subst hlf;have h:=Z<|c.done ag<|.inr rfl;clear t l;go_wp2;exact⟨⟨i+1,_,by omega,by go_num,rfl,h⟩,by simp[Zk];omega⟩
   |true=>
    subst hlf;obtain⟨ca,cc,u⟩:=G.a;have j:wr.cell? ⟨H,1,none⟩=some (.slice ca n cc):=(VK<|t.block H av).trans u;have x:=Z<|Sw true y C B (by omega) j (by omega);have W:=Z<|al.below t;have h:=aj.o _ M;simp only at h;have I:=Z h;clear t l u j h;go_wp2_with refine x.mono ?_;rintro e w2⟨j,u,rfl,Q⟩;have S:=Z j;have HU:=Z Q;have h:qB w2<|w2.alloc<|.cells #[qL pg E.length pc,u] 32:=qA;have t:oJ w2 w2.heap.size (List.replicate n aE) u:=oJ.own (by simpa using Q) (by intro e;have:=Wd List.length e;simp at this;omega);have l:=Z<|J5 2 ((W.below j).below h) (t.below h) (aM _ _) (by have:=I.o;simp;omega);have V:=Z h;obtain⟨ua,un,uc,rfl⟩:=aF Q;clear j Q h t x;go_wp2_with refine l.mono ?_;rintro e w3⟨Q,u3,rfl,t⟩;obtain⟨xa,xn,xc,rfl⟩:=aF t;have aN:=S.size;have x:=V.size;have h:qB wr w3:=S.trans<|(V.mono aN).trans<|Q.mono (by omega);have j:=aB h c.row.1;have aV:wr.heap.size<=w3.heap.size:=h.size;have aL:=Z t;have aC:=Z h;clear Q t h l x;go_wp2_with (at_builtin;refine VS _ rfl (.tmp 66) (.tmp 72) 29 rfl (w.heap.size+1) 32 i0 _ 1 24 underlying29 hi aw ax ay rfl (by decide) _ _ _ rfl (j.alloc _) ⟨w3.heap.size,0,none⟩ 1 1 [.slice xa xn xc] rfl rfl ?c1 ?c2 ?c3 ?c4 ?c5 ?_)
    case c1=>exact cW w3 [.slice xa xn xc] 32
    case c2=>intro x h;simp at h;subst h;rfl
    case c3=>unfold Zj;omega
    case c4=>omega
    case c5=>simp;omega
    intro v' w4 l Q Y;have t:Ze<|EZ w w4 (.cells #[qP H,.bool true,.slice y C B] 284) o F R true n b d (i+1) v'<|K++[(E++List.replicate n aE,.slice xa xn xc)]:=by have x:qB wr<|w3.alloc<|.cells #[.slice xa xn xc] 32:=aC.alloc aV _;have hN:=c.o;rw[aQ]at hN;refine hN.left ag (a_ (c.d.trans<|x.mono P) Q (λk hk=>(c.row.1.lt k hk).1) (by simp;omega))<|(c.row.below x).push (bU (aL.alloc _) (by simp;omega)) (by intro h;have:=Wd List.length h;simp at this;omega) l Q
    clear j l Q Y;go_wp2;rw[Exit.noGoto_normal];go_wp2;exact⟨⟨i+1,_,by omega,by go_num,rfl,t⟩,by simp[Zk];omega⟩
  obtain rfl:i=d.length:=by omega
  have g:Ze<|o=.ok (D.map (·.1)):=by rw[Ze,J.e,Wa];simp[aR,ie]
  clear U N;go_wp2
  (try rw[Exit.noGoto_ret])
  go_ret2;exact⟨(Lv J.d).1,.inr ⟨D,_,g,rfl,bU J.row.1<|Xn _,λj c=>⟨bU (J.row.2 j c).1<|Xn _,(J.row.2 j c).2⟩⟩⟩
structure gU where
 g:Nat
 d:Bool
 a:YY
 c:aA
 b:YZ
 n:Nat
 e:Zb
def jg:List gU->List YW->aV (List YW)
 |[],rows=>.ok rows
 |s::ss,rows=>match aR s.a s.c s.d s.n (s.b.map (·.1)) rows with
  |.error e=>.error e
  |.ok z=>jg ss z
def pD:List gU->List YW->Prop
 |[],_=>True
 |s::ss,rows=>(gR s.a s.c/\(∀p∈rows,∀q∈s.b,ke s.a<|p++q.1)/\(∀p∈rows,p.length<=100)/\(∀q∈s.b,q.1.length<=100/\q.1≠[])/\1<=s.n/\s.n<=100/\rows.length<=20000/\s.b.length<=25) /\
  ∀z,aR s.a s.c s.d s.n (s.b.map (·.1)) rows=.ok z->pD ss z
def EG(s:gU):Y0:=[qP s.g,.bool s.d,s.e]
def br.src{d:List gU}{v:Zb}(h:br w n 3 EG d v){s:gU}(b:d[i]?=some s):∃g cap,v=qL g d.length cap/\g<n /\
 w.cell? ⟨g,i*3,none⟩=some (qP s.g)/\w.cell? ⟨g,i*3+1,none⟩=some (.bool s.d)/\w.cell? ⟨g,i*3+2,none⟩=some s.e:=by
 obtain⟨a,cap,rfl,e⟩:=h;obtain⟨g,rfl,j,c⟩:=e (by rintro rfl;simp at b);exact⟨g,cap,rfl,j,c i s b 0 _ rfl,c i s b 1 _ rfl,c i s b 2 _ rfl⟩
def zI.more(h:zI w k F j b R o n u)(a:k<=i):zI w i F j b R o n u:=by obtain⟨c,r,⟨rv,d,e⟩,g,l⟩:=h;exact⟨br.more c a,by omega,⟨rv,d,e.more a⟩,λq p=>(g q p).more a,l⟩
def zI.below(h:zI w w.heap.size F i b R o n u)(a:qB w W):zI W W.heap.size F i b R o n u:=(h.aL λk hk=>a.block k hk).more a.size
def E4(w:Za)(ps:YZ)(v:Zb):Prop:=br w w.heap.size 1 (λp=>[p.2]) ps v/\∀p∈ps,oJ w w.heap.size p.1 p.2
def E4.below{v:Zb}(h:E4 w o v)(a:qB w W):E4 W o v:=⟨h.1.below a,λp b=>(h.2 p b).below a⟩
def ny.c{v:Zb}(h:ny w n v o):E4 w o v:=
 ⟨c7 (f:=λp:au=>[p.2]) (λ_=>rfl) (by rw[yy];exact h.1)<|VR _,λj a=>oJ.own (h.2 j a).1 (h.2 j a).2⟩
def Au:∀{qs:List YW}{e:Nat},bd F R I qs=.error e->e=4\/e=5
 |[],e,h=>by simp[bd]at h
 |q::qs,e,h=>by
  cases hv:bZ F (I++q) R with
  |error e'=>rw[At hv]at h;cases h;exact jc hv
  |ok v=>
   rw[bd,hv]at h;simp only at h;cases hb:bd F R I qs with
   |error e'=>rw[hb]at h;cases h;exact Au hb
   |ok z=>rw[hb]at h;simp only at h;split at h<;>cases h
def nA:∀{a:List YW}{e:Nat},aR F R b n N a=.error e->e=4\/e=5
 |[],e,h=>by simp[aR]at h
 |r::a,e,h=>by
  rw[aR]at h;cases hb:bd F R r N with
  |error e'=>rw[hb]at h;cases h;exact Au hb
  |ok z=>
   rw[hb]at h;simp only at h;cases hj:aR F R b n N a with
   |error e'=>rw[hj]at h;cases h;exact nA hj
   |ok y=>rw[hj]at h;cases h
structure Mt(w wr:Za)(o:aV<|List YW)(ss:List gU)(i:Nat)(v:Zb)(ps:YZ):Prop where
 d:qB w wr
 rows:E4 wr ps v
 own:i=0\/ny wr w.heap.size v ps
 ok:pD (ss.drop i)<|ps.map (·.1)
 e:o=jg (ss.drop i) (ps.map (·.1))
def NF(X:dD){b:List gU}(c:br w w.heap.size 3 EG b A)(d:b≠[])(V:b.length<=1000)(a:∀s∈b,zI w w.heap.size s.a s.g s.d s.c s.b s.n s.e)(r:pD b [[]]):
 Zc prog 111 #[A] w (Ah w<|jg b [[]]):=by
 obtain⟨sa,sc,rfl⟩:=c.slice;have N:=Z c;have n:=Z a;have M:=Z r;have L:=Z d;generalize g:jg b [[]]=o;have HO:=Z g;clear c a r d g;go_in;go_wp2;have d:Ze<|Mt w ((w.alloc<|.cells #[] 34).alloc<|.cells #[qL w.heap.size 0 0] 32) o b 0 (qL (w.heap.size+1) 1 1) [([],qL w.heap.size 0 0)]:=by
  refine⟨qA.alloc (by simp) _,⟨⟨some ⟨w.heap.size+1,0,none⟩,1,rfl,λ_=>⟨w.heap.size+1,rfl,by simp,λi c h j u g=>?_⟩⟩,λp q=>?_⟩,.inl rfl,by simpa using M.o,by simpa using HO.symm⟩
  ·have k:i=0:=by
    have:=(VZ.1 h).1;simpa using this
   subst k;simp at h;subst h;have l:j=0:=by have:=(VZ.1 g).1;simpa using this
   subst l;simp at g;subst g;simp
  simp at q;subst q;exact⟨w.heap.size,0,rfl,by simp;omega,λi u g=>by simp[c_]at g⟩
 go_loopw [4,13] (λs4 T wr=>∃(i:Nat) (t:YZ),i<=b.length/\T=qI i/\Ze (Mt w wr o b i s4 t)) (λ_ a _=>b.length-(Zk a).toNat)
 exact⟨0,_,Wi _,rfl,d⟩
 case round=>
  obtain⟨i,t,ab,rfl,u⟩:=hrel;clear d;have d:=u.d;have H:=d.size;obtain⟨I,J,rfl⟩:=u.rows.1.slice;by_cases y:i<b.length
  .have S:b[i]?=some b[i]:=VE y;have U:Ze<|b.drop i=b[i]::b.drop (i+1):=VJ y;have h:=VQ y;generalize b[i]=s at*;have r:=u.ok;rw[U]at r;obtain⟨⟨l,x,B,C,E,K,k7,k8⟩,(F:Ze _)⟩:=r;obtain⟨g,cap,he,hg,e0,e1,e2⟩:=(N.aL λk hk=>d.block k hk).src S;cases he;have aa:g<wr.heap.size:=by omega
   obtain⟨O,Q,P,j⟩:=(n s h).prog.slice;have c:Ze (∀W,qB wr W->Zc prog 173 #[.agg #[qP s.g,.bool s.d,s.e],.slice I t.length J] W (Ah W<|aR s.a s.c s.d s.n (s.b.map (·.1))<|t.map (·.1))):=by intro W G;have Y:=u.rows.below G;exact TZ X s.d ((n s h).below<|d.trans<|G.mono H) Y.1 Y.2 l (λp R q hq=>x p.1 (V0 R) q hq) (λp R=>B p.1<|V0 R) C E K (by simpa using k7) k8
   have D:Ze<|o=match aR s.a s.c s.d s.n (s.b.map (·.1)) (t.map (·.1))with|.error e=>.error e|.ok z=>jg (b.drop<|i+1) z:=by rw[Ze,u.e,U];rfl
   clear l x B C E K k7 k8 d h;have E:Ze (∀e,aR s.a s.c s.d s.n (s.b.map (·.1)) (t.map (·.1))=.error e->e=4\/e=5):=λe h=>nA h;generalize l:aR s.a s.c s.d s.n (s.b.map (·.1)) (t.map (·.1))=o' at*;clear l;rw[j]at e2 c;generalize s.g=tn at*;generalize s.d=lf at*;clear j;generalize G:wr.alloc (.cells #[qP tn,.bool lf,.slice O Q P] 284)=W;have l:Ze<|qB wr W:=by rw[Ze,<-G];exact qA
   subst G;go_wp2_with apply(c _ l).mono;rintro e w2⟨x,B⟩;have j:qB w w2:=u.d.trans<|(l.trans<|x.mono l.size).mono H;have C:=Z j;clear j c;obtain⟨K,rfl,rfl⟩|⟨js,v,rfl,rfl,c⟩:=B
   .have p:((K:Int) != 0)=true:=by have:=E.o K rfl;simp;omega
    have j:Ze<|o=.error K:=D.o;clear x;go_wp2;go_ret2;exact⟨C,.inl ⟨K,j,rfl⟩⟩
   have p:Ze<|Mt w w2 o b (i+1) v js:=⟨C,c.c,.inr ⟨bU c.1 (by have:=l.size;omega),λj q=>⟨bU (c.2 j q).1 (by have:=l.size;omega),(c.2 j q).2⟩⟩,F _ rfl,D⟩;clear x c;go_wp2;go_roundw;exact⟨i+1,_,by omega,by go_num,p⟩;simp[Zk];omega
  obtain rfl:i=b.length:=by omega
  have c:Ze<|o=.ok (t.map (·.1)):=by rw[Ze,u.e,Wa];rfl
  have g:Ze<|ny wr w.heap.size (.slice I t.length J) t:=(u.own.resolve_left λh=>L<|V3.1 h);have HB:=Z d;clear d;go_wp2;go_ret2;exact⟨HB,.inr ⟨t,_,c,rfl,g⟩⟩
def Rc(p:ay×Zb):Y0:=EA p.1 p.2
def br.q{v:Zb}(h:br w n 4 Rc r v){s:ay×Zb}(b:r[i]?=some s):∃g cap,v=.slice (some ⟨g,0,none⟩) r.length cap/\g<n /\
 w.cell? ⟨g,i*4,none⟩=some (.string ⟨s.1.name.toArray⟩)/\w.cell? ⟨g,i*4+1,none⟩=some (.string ⟨s.1.aY.toArray⟩)/\w.cell? ⟨g,i*4+2,none⟩=some (.bool s.1.eC)/\w.cell? ⟨g,i*4+3,none⟩=some s.2:=by
 obtain⟨a,cap,rfl,d⟩:=h;obtain⟨g,rfl,e,c⟩:=d (by rintro rfl;simp at b);exact⟨g,cap,rfl,e,c i s b 0 _ rfl,c i s b 1 _ rfl,c i s b 2 _ rfl,c i s b 3 _ rfl⟩
def OH(ob:Nat):Zb:=.func (.func 295) #[] #[.pointer<|some ⟨ob,0,none⟩]
def UD(h b c:YX)(m:Bool)(a:Y8)(g:w.heap[n]?=some (.cells #[.string ⟨c.toArray⟩] 9)):
 Zc prog 295 #[.agg #[.string ⟨h.toArray⟩,.string ⟨b.toArray⟩,.bool m,.pointer a],.pointer<|some ⟨n,0,none⟩] w λe k=>e=.returned (.bool<|decide<|b=c)/\qB w k:=by
 have j:=lB g;have i:=bC g 0;simp at i;have HB:Ze<|qB w<|w.alloc<|.cells #[.string ⟨h.toArray⟩,.string ⟨b.toArray⟩,.bool m,.pointer a] 324:=qA;by_cases d:b=c
 .obtain⟨l,o⟩:=kj d;rw[Xy d];clear d;go_in;go_wp2;go_ret;exact⟨rfl,HB⟩
 .obtain⟨l,o⟩:=ku d;rw[Xd d];go_in;go_wp2;go_ret;exact⟨rfl,HB⟩
def others(ss:List<|ay×Zb):List YX:=ss.map λp=>p.1.aY
def MC(w:Za)(b:Bool)(e:Zg)(w':Za):Prop:=∃k:Int,e=.returned (.int .i64 k)/\decide (0<=k)=b/\k<9000000000/\qB w w'
def OI(b:YX)(y:br w w.heap.size 4 Rc r u)(S:∀s∈r,∃a,s.2=.pointer a)(Y:r.length<=1048577)(H:w.heap[n]?=some (.cells #[.string ⟨b.toArray⟩] 9)):
 Zc prog 320 #[u,OH n] w (MC w<|(others r).contains b):=by
 obtain⟨sa,sc,rfl⟩:=y.slice;have C:=Z y;have K:=Z S;have B:=Z H;generalize R:(others r).contains b=o;have G:=Z R;unfold OH;go_in;go_wp2
 go_loopw [8] (λT wr=>∃(i:Nat),i<=r.length/\T=.int .i64 i/\Ze (qB w wr/\∀(j:Nat) s,j<i->r[j]?=some s->s.1.aY≠b)) (λa _=>r.length-(Zk a).toNat)
 exact⟨0,Wi _,rfl,VM _ _,λj s A=>by omega⟩
 case round=>
  obtain⟨i,Q,rfl,l⟩:=hrel;have d:=l.1;have p:=d.size;by_cases q:i<r.length
  .have t:r[i]?=some r[i]:=VE q;have c:=VQ q;generalize r[i]=s at*;obtain⟨g,cap,O,X,U,V,W,M⟩:=(C.aL λk hk=>d.block k hk).q t;cases O;have P:g<wr.heap.size:=by omega
   obtain⟨a,N⟩:=K.o s c;rw[N]at M;have E:wr.heap[n]?=some (.cells #[.string ⟨b.toArray⟩] 9):=(d.block n<|lB H).trans B;have z:=Z<|UD s.1.name s.1.aY b s.1.eC a E;have L:=Z t;have I:=Z c;by_cases h:s.1.aY=b
   ·rw [Xy h]at z;have D:Ze<|o=true:=by
     unfold Ze;rw[<-G,WM];exact VV.2 ⟨s,I,h⟩
    clear h;go_wp2_with fail;refine z.mono ?_;rintro e F⟨rfl,x⟩;have HB:=Z<|l.1.trans<|x.mono p;go_wp2;go_ret;exact⟨i,rfl,by rw[D];simp,by omega,HB⟩
   rw[Xd h]at z;have J:Ze (∀(j:Nat) s,j<i+1->r[j]?=some s->s.1.aY≠b):=λj x A F=>by
    by_cases e:j=i
    .subst e;rw[L]at F;cases F;exact h
    exact l.2 j x (by omega) F
   go_wp2_with fail;refine z.mono ?_;rintro e w1⟨rfl,D⟩;go_wp2;go_roundw;exact⟨i+1,by omega,by go_num,Z<|l.1.trans<|D.mono p,J⟩;simp[Zk];omega
  obtain rfl:i=r.length:=by omega
  have c:Ze<|o=false:=by
   unfold Ze;rw[<-G];cases hc:(others r).contains b with
   |false=>rfl
   |true=>
    rw[WM]at hc;obtain⟨s,hs,h⟩:=VV.1 hc;obtain⟨j,A,rfl⟩:=Xe hs;exact absurd h<|l.2 j _ A<|VE A
  go_wp2;go_ret;exact⟨-1,rfl,by rw[c];simp,by omega,l.1⟩
def G3(b:br w w.heap.size 4 Rc h u)(j:∀s∈h,∃a,s.2=.pointer a)(i:h.length<=1048577)(g:w.heap[n]?=some (.cells #[qT X] 9)):
 Zc prog 294 #[u,OH n] w λe l=>e=.returned (.bool<|(others h).contains X)/\qB w l:=by
 have d:=Z<|OI X b j i g;obtain⟨q,r,rfl⟩:=b.slice;generalize p:(others h).contains X=o at*;unfold OH at*;go_in;go_wp2_with refine d.mono ?_;rintro e t⟨k,rfl,rfl,hk,c⟩;go_wp2;go_ret;exact⟨rfl,c⟩
def KZ(c:YX)(b:br w w.heap.size 4 Rc h u)(j:∀s∈h,∃a,s.2=.pointer a)(i:h.length<=1048577):
 Zc prog 256 #[u,qT c] w λe k=>e=.returned (.bool<|(others h).contains c)/\qB w k:=by
 have hB:qB w<|w.alloc<|.cells #[qT c] 9:=qA;have g:=Z<|G3 (b.below hB) j i<|aM _ _;have HB:=Z hB;obtain⟨n,p,rfl⟩:=b.slice;generalize l:(others h).contains c=o at*;unfold OH at*;go_in;go_wp2_with fail;apply qR g;intro q d;go_wp2;go_ret;exact⟨rfl,Z<|HB.trans<|d.mono HB.size⟩
def kU(acc:Y4):aV (Y4)->aV Y4
 |.error e=>.error e
 |.ok is=>.ok<|acc++is
def sZ{a:List YX}{c:ay}{d:Y3}{b:Y4}(h:bO K c.name=none):kU b (bq K a<|c::d)=.error 2:=by rw[bq,h];rfl
def rE{a:List YX}{c:ay}{d:Y3}{b:Y4}(h:bO K c.name=some i)(e:a.contains c.aY=true):kU b (bq K a<|c::d)=.error 2:=by rw[bq,h];simp only[VG e];rfl
def s_{a:List YX}{c:ay}{d:Y3}{b:Y4}(h:bO K c.name=some i)(e:a.contains c.aY=false):kU b (bq K a<|c::d)=kU (b++[i]) (bq K (a++[c.aY]) d):=by rw[bq,h];simp only[e,WJ,if_false];cases bq K (a++[c.aY]) d<;>simp[kU]
def GC(lay:Y5)(is:Y4):Y0:=is.map λi=>iA lay<|some i
def MD(w:Za)(lay:Y5)(o:aV Y4)(e:Zg)(w':Za):Prop:=qB w w' /\
 ((o=.error 2/\e=.returned (.tuple #[qN,qI 2])) \/
  (∃is v,o=.ok is/\e=.returned (.tuple #[v,qI 0])/\w'.ownsRow w.heap.size 87 1 v is.length (GC lay is)))
structure MI(w wr:Za)(lay:Y5)(D:aI)(o:aV Y4)(ss:List<|ay×Zb)(i:Nat)(v:Zb)(is:Y4):Prop where
 d:qB w wr
 own:wr.ownsRow w.heap.size 87 1 v is.length<|GC lay is
 len:is.length=i
 e:o=kU is (bq D (others<|ss.take i)<|(ss.drop i).map (·.1))
def Gx{s:ay×Zb}(h:r[i]?=some s):others (r.take<|i+1)=others (r.take i)++[s.1.aY]:=by rw[V9,h];simp[others]
def L8{b:Nat}{d:Y5}(h:pY w G b d K)(i:br w w.heap.size 4 Rc r u)(k:∀s∈r,∃a,s.2=.pointer a)(hl:r.length<=1048577)(g:∀a n c,u=.slice a n c->n<=c):
 Zc prog 226 #[.pointer<|some ⟨b,0,none⟩,u] w (MD w d<|bq K []<|r.map (·.1)):=by
 obtain⟨sa,E,rfl⟩:=i.slice;obtain⟨i0,hi,T,U,L⟩:=V5 Ke;have ab:r.length<=E:=g _ _ _ rfl;have F:=Z i;have HP:=Z k;have M:=Z h;clear g;generalize j:bq K [] (r.map (·.1))=o;have g:Ze<|MI w w d K o r 0 (.slice none 0 0) []:=⟨VM _ _,VP _ _ _ _,rfl,by rw[<-j];simp[others];cases bq K [] (r.map (·.1))<;>simp[kU]⟩;clear i k h j;go_in;go_wp2
 go_loopw [6,12] (λs6 X wr=>∃(i:Nat) (is:Y4),i<=r.length/\X=.int .i64 i/\Ze (MI w wr d K o r i s6 is)) (λ_ a _=>r.length-(Zk a).toNat)
 exact⟨0,[],Wi _,rfl,g⟩
 case round=>
  obtain⟨i,is,Q,rfl,l⟩:=hrel;clear g;have q:=l.d;have t:=q.size;obtain⟨ag,ah,rfl⟩:=bN l.own;by_cases A:i<r.length
  .have y:r[i]?=some r[i]:=VE A;have HD:Ze<|r.drop i=r[i]::r.drop (i+1):=VJ A;have p:=VQ A;generalize r[i]=s at*;have N:=Z<|Gx y;obtain⟨h,tv⟩:=s;obtain⟨g,cap,P,hg,e0,e1,e2,e3⟩:=(F.aL λk hk=>q.block k hk).q y;cases P;have ac:g<wr.heap.size:=by omega
   obtain⟨a,ha⟩:=HP.o _ p;simp only at ha e0 e1 e2 e3;subst ha;have B:Ze<|o=kU is (bq K (others<|r.take i)<|h::(r.drop<|i+1).map (·.1)):=by rw[Ze,l.e,HD];rfl
   have x:qB wr<|wr.alloc<|.cells #[.string ⟨h.name.toArray⟩,.string ⟨h.aY.toArray⟩,.bool h.eC,.pointer a] 324:=qA;have C:=Z x;have j:=Z<|FN h.name<|M.below<|q.trans<|x.mono t;clear q p y x;go_wp2_with fail;refine j.mono ?_;rintro e W⟨rfl,x⟩;have z:Ze<|qB wr W:=by rw[Ze,x];exact C
   have p:W.heap[wr.heap.size]?=some (.cells #[.string ⟨h.name.toArray⟩,.string ⟨h.aY.toArray⟩,.bool h.eC,.pointer a] 324):=by rw[x];exact Z<|aM wr<|.cells #[.string ⟨h.name.toArray⟩,.string ⟨h.aY.toArray⟩,.bool h.eC,.pointer a] 324
   have S:wr.heap.size<W.heap.size:=lB p;have I:=bC p 1;simp at I;clear x j C p;cases htab:bO K h.name with
   |none=>
    have y:Ze<|o=.error 2:=by rw[Ze,B,sZ htab]
    clear htab;unfold iA;go_wp2;have C:Inhabited<|dx W:=dx.first W;refine eV (by kernel_rfl) (by kernel_rfl) ?_;repeat (go_big_quiet_step (fail))
    refine wpQuiet_nil ?_;intro _ x;obtain⟨pb,j⟩:=x;subst j;have p:Ze<|qB w pb.val:=l.d.trans<|(z.trans<|pb.d.mono<|by omega).mono t;generalize pb.val=D at*;clear pb;go_wp2;go_ret2;exact⟨p,.inl ⟨y,rfl⟩⟩
   |some j=>
    have x:qB w W:=l.d.trans<|z.mono t;have C:br W W.heap.size 4 Rc (r.take i)<|.slice (some ⟨g,0,none⟩) i E:=by
     obtain⟨a',J,R,h2⟩:=(F.aL λk hk=>x.block k hk).more x.size;cases R;refine⟨_,E,by rw[Wl,XE Q],λhn=>?_⟩;obtain⟨O,h3,h4,h5⟩:=h2 (by rintro rfl;simp at A)
     exact ⟨O,h3,h4,λk c D=>h5 k c (by
      rw[V6]at D;split at D
      .exact D
      .cases D)⟩
    have iB:Inhabited<|dx W:=dx.first W;have y:Ze (∀p:dx W,Zc prog 256 #[.slice (some ⟨g,0,none⟩) i E,.string ⟨h.aY.toArray⟩] p.val λe Y=>e=.returned (.bool<|(others<|r.take i).contains h.aY)/\∃p':dx W,Y=p'.val):=λp=>
     (KZ h.aY (C.below p.d) (λs hs=>HP s<|Wr hs) (by rw[Wl];omega)).mono (λe Y ⟨P,D⟩=>⟨P,⟨Y,p.d.trans<|D.mono p.d.size⟩,rfl⟩)
    have H:=λp=>dx.cell S I p;have HT:=Z htab;clear x C htab;have⟨ad,ae,af⟩:(0:Int)<=(i:Int)/\(i:Int)<=(E:Int)/\i<=E:=by omega
    rw[show iA d (some j)=.pointer (some ⟨(d.getD j ⟨0,.slice none 0 0,[]⟩).n,0,none⟩)from rfl];generalize x:(d.getD j ⟨0,.slice none 0 0,[]⟩).n=V;have HL:=Z x;clear x;cases hct:(others<|r.take i).contains h.aY with
    |true=>
     have J:Ze<|o=.error 2:=by rw[Ze,B,rE HT hct]
     rw[hct]at y;clear hct;go_wp2_with fail;refine eV (by kernel_rfl) (by kernel_rfl) ?_;repeat (go_big_quiet_step (exact y _))
     refine wpQuiet_nil ?_;intro _ D;obtain⟨pb,x⟩:=D;subst x;have C:Ze<|qB w pb.val:=l.d.trans<|(z.trans<|pb.d.mono<|by omega).mono t;clear H y I;generalize pb.val=O at*;clear pb;go_wp2;go_ret2;exact⟨C,.inl ⟨J,rfl⟩⟩
    |false=>
     have HE:Ze<|o=kU (is++[j]) (bq K (others<|r.take<|i+1)<|(r.drop<|i+1).map (·.1)):=by rw[Ze,B,s_ HT hct,N]
     rw[hct]at y;clear hct;go_wp2_with fail;refine eV (by kernel_rfl) (by kernel_rfl) ?_;repeat (go_big_quiet_step (exact y _))
     refine wpQuiet_nil ?_;intro _ R;obtain⟨pb,J⟩:=R;subst J;have D:Ze<|qB wr pb.val:=z.trans<|pb.d.mono (by omega);clear H y I;generalize pb.val=O at*;clear pb;have L:wr.heap.size<=O.heap.size:=D.size;have aa:is.length<=1048577:=by rw[l.len];omega
     go_wp2_with (at_builtin;refine VS _ rfl (.tmp 31) (.tmp 33) 75 rfl w.heap.size 87 i0 _ 1 8 underlying75 hi T U ‹_› rfl (by decide) _ _ _ rfl ((aB D l.own).alloc _) ⟨O.heap.size,0,none⟩ 1 1 [.pointer<|some ⟨V,0,none⟩] rfl rfl ?c1 ?c2 ?c3 ?c4 ?c5 ?_)
     case c1=>exact cW O [.pointer<|some ⟨V,0,none⟩] 87
     case c2=>intro x hx;simp at hx;subst hx;rfl
     case c3=>unfold Zj;omega
     case c4=>omega
     case c5=>simp;omega
     intro v' w4 y H I;have C:Ze<|MI w w4 d K o r (i+1) v'<|is++[j]:=by
      refine⟨a_ (l.d.trans<|(D.alloc L _).mono t) H (λk hk=>(l.own.lt k hk).1) (by simp;omega),?_,by have:=l.len;simp;omega,HE⟩;have e:GC d (is++[j])=GC d is++[.pointer<|some ⟨V,0,none⟩]:=by rw[<-HL];simp[GC,iA,gC]
      rw[e];simpa using y
     clear y H I;go_wp2;go_roundw;exact⟨i+1,_,by omega,by go_num,C⟩;simp[Zk];omega
  obtain rfl:i=r.length:=by omega
  have g:Ze<|o=.ok is:=by rw[Ze,l.e,Wa];simp[bq,kU]
  clear q;go_wp2;go_ret2;exact⟨l.d,.inr ⟨is,_,g,rfl,l.own⟩⟩
def jk{db:aI}:∀{is:Y4}{aN:Y3}{i:Nat}{t:Nat}{it:ay},is[i]?=some t->aN[i]?=some it->aw db (is.take<|i+1) (aN.take<|i+1)=aw db (is.take i) (aN.take i)++ax it.aY (ak db t)
 |[],_,i,t,it,h,_=>by simp at h
 |_::_,[],i,t,it,_,h=>by simp at h
 |a::is,b::aN,0,t,it,h,h'=>by simp at h h';subst h;subst h';simp[aw]
 |a::is,b::aN,i+1,t,it,h,h'=>by have:=jk (db:=db) (is:=is) (aN:=aN) (i:=i) (by simpa using h) (by simpa using h');simp only[Yd,aw];rw[this,Wh]
def uD{db:aI}{ab:YY}{c:Y4}{b:Y3}{e:Nat}{a:ay}(h:c[i]?=some n)(d:b[i]?=some a)(k:aT (ab++ax a.aY (ak db n)) (aK a.aW) 3=some e):bT db ab (c.drop i) (b.drop i)=some e:=by obtain⟨g,rfl⟩:=VZ.1 h;obtain⟨j,rfl⟩:=VZ.1 d;rw[VJ g,VJ j,bT,k]
def qG{db:aI}{ab:YY}{c:Y4}{b:Y3}{a:ay}(h:c[i]?=some n)(d:b[i]?=some a)(j:aT (ab++ax a.aY (ak db n)) (aK a.aW) 3=none):bT db ab (c.drop i) (b.drop i)=bT db (ab++ax a.aY (ak db n)) (c.drop<|i+1) (b.drop<|i+1):=by obtain⟨e,rfl⟩:=VZ.1 h;obtain⟨g,rfl⟩:=VZ.1 d;rw[VJ e,VJ g,bT,j]
def dQ{P:Program}{h:Array Oper}{o:Oper}{a:Act}{K:Act->Za->Prop}{Q:Exit->Act->Za->Prop}{E:Prop}
 (p:o.guard=none){f:Nat}(x y:Operand){z:Array Zf}(k:o.op=Op.call {callee:=Callee.value<|Operand.func f,args:=#[x,y],argTypes:=z})
 {i j:Zb} (d:(Zi f #[i,j]).run P w=.ok (.enter f #[i,j]) w) (t:a.eval x=i) (u:a.eval y=j) {b:Zb->Za->Prop} (n:Zc P f #[i,j] w λe c=>∃v,e=.returned v/\b v c)
 (l:∀v c,b v c->K (a.put o.dst v) c):
 if Region.wanted o (yielded h a.tmps)=true then Oper.wp P o a w K Q else E:=by
 have r:Region.wanted o (yielded h a.tmps)=true:=by simp[Region.wanted,p]
 rw[VG r];have g:(execOp a.eval o).run P w=.ok (.enter f #[i,j]) w:=by rw[<-d,<-t,<-u];simp[execOp,k,resolve,invoke,go_sem,Act.eval]
 unfold Oper.wp;rw[g,Oper.upon_enter];refine n.mono ?_;rintro e c⟨v,rfl,q⟩;exact l v c q
def pH{d:Y_}:(Zi 106 d).run prog w=.ok (.enter 106 d) w:=by
 have g:(f106.name == "runtime.NumGoroutine")=false:=by kernel_rfl
 have c: f106.body.isNone=false:=by kernel_rfl
 have a:¬f106.name = "runtime.NumGoroutine":=by simpa using g
 have b:¬f106.body=none:=by intro e;rw[e]at c;cases c
 simp[Zi,go_sem,func106,a,b]
def Bx{e:Zf}{v:Zb}{b:Y0}(h:w.ownsRow k e i v n b)(y:0<n):∃g c,v=qL g n c/\∀j u,b[j]?=some u->w.cell? ((⟨g,0,none⟩:Addr).add j)=some u:=by
 obtain⟨rfl,q⟩|⟨g,cap,d,rfl,r,l,t,x,hs,p⟩:=h.2
 .omega
 refine⟨g,cap,rfl,λj u a=>?_⟩;rw[addr_add,bC l];have o:j<b.length:=(VZ.1 a).1;have:=h.1;rw[<-p]at a;rw[V6]at a;split at a
 .simpa using a
 cases a
def sr:fG:=⟨0,qN,[]⟩
def uy(D:aI)(lay:Y5)(ab:YY)(i:Nat)(it:ay)(cv:Zb):gU:=
 ⟨(lay.getD i sr).n,it.eC,ab,aK it.aW,(ak D i).rows.zip (lay.getD i sr).us,(ak D i).a.length,cv⟩
def sR(w:Za)(u v:Zb):Nat->Prop:=λk=>k<w.heap.size/\u.ownBlock≠some k/\v.ownBlock≠some k
def sR.below{v:Zb}(a:qB w W)(h:sR w u v k):sR W u v k/\W.heap[k]?=w.heap[k]?:=⟨⟨by have:=a.size;have:=h.1;omega,h.2⟩,a.block k h.1⟩
def sR.d{v:Zb}(b:w.grownBy W v.ownBlock)(a:∀k,z.ownBlock=some k->v.ownBlock=some k\/w.heap.size<=k)(h:sR w u v k):sR W u z k/\W.heap[k]?=w.heap[k]?:=by
 refine⟨⟨by have:=b.size;have:=h.1;omega,h.2.1,λe=>?_⟩,b.block k h.1 λe=>h.2.2 e.symm⟩;obtain a|a:=a k e
 .exact h.2.2 a
 have:=h.1;omega
def sR.c{v:Zb}(b:w.grownBy W u.ownBlock)(a:∀k,z.ownBlock=some k->u.ownBlock=some k\/w.heap.size<=k)(h:sR w u v k):sR W z v k/\W.heap[k]?=w.heap[k]?:=by
 refine⟨⟨by have:=b.size;have:=h.1;omega,λe=>?_,h.2.2⟩,b.block k h.1 λe=>h.2.1 e.symm⟩;obtain a|a:=a k e
 .exact h.2.1 a
 have:=h.1;omega
def im(D:aI)(is:Y4)(aN:Y3)(i:Nat):YY:=aw D (is.take i)<|aN.take i
structure pC(w wr:Za)(D:aI)(lay:Y5)(is:Y4)(aN:Y3)(tv sv cv:Zb)(i:Nat)(ps:List gU):Prop where
 d:qB w wr
 c:wr.ownsRow w.heap.size 87 1 tv is.length<|GC lay is
 b:wr.ownsRow w.heap.size 284 3 sv ps.length<|ps.flatMap EG
 a:wr.ownsRow w.heap.size 271 3 cv (im D is aN i).length<|kP<|im D is aN i
 fits:∀(j:Nat) (s:gU),ps[j]?=some s->∃ti it u,is[j]?=some ti/\aN[j]?=some it/\s=uy D lay (im D is aN<|j+1) ti it u
 e:∀s∈ps,lM wr (sR wr sv cv) s.a s.c s.e
def pC.below{wr:Za}{c:Y4}{b:Y3}{i:Nat}{d:List gU}(h:pC w wr K g c b u z A i d)(a:qB wr W):pC w W K g c b u z A i d:=
 ⟨h.d.trans<|a.mono h.d.size,aB a h.c,aB a h.b,aB a h.a,h.fits,λs hs=>(iE.aL (h.e s hs) λk hk=>(hk.below a).2).mono λk hk=>(hk.below a).1⟩
def pC.more{w4:Za}{d:Y4}{c:Y3}{cv':Zb}{j:List gU}(h:pC w W K g d c u z A i j)(b:w4.ownsRow w.heap.size 271 3 cv' (im K d c<|i+1).length<|kP<|im K d c<|i+1)(a:W.grownBy w4 A.ownBlock)(e:∀k,cv'.ownBlock=some k->A.ownBlock=some k\/W.heap.size<=k):pC w w4 K g d c u z cv' (i+1) j:=
 ⟨a_ h.d a (λk hk=>(h.a.lt k hk).1) h.d.size,eU h.c h.a a<|by decide,eU h.b h.a a<|by decide,b,h.fits,λs hs=>(iE.aL (h.e s hs) λk hk=>(hk.d a e).2).mono λk hk=>(hk.d a e).1⟩
def pC.push{d:Y4}{c:Y3}{u:Zb}{l:ay}{b:List gU}(h:pC w W K g d c z A C (i+1) b)(D:b.length=i)(y:d[i]?=some n)(q:c[i]?=some l)(t:lM W (sR W A C) (im K d c<|i+1) (aK l.aW) u)
 (e:x.ownsRow w.heap.size 284 3 B (b.length+1)<|b.flatMap EG++EG (uy K g (im K d c<|i+1) n l u)) (a:W.grownBy x A.ownBlock) (o:∀k,B.ownBlock=some k->A.ownBlock=some k\/W.heap.size<=k):pC w x K g d c z B C (i+1)<|b++[uy K g (im K d c<|i+1) n l u]:=by
 refine⟨a_ h.d a (λk hk=>(h.b.lt k hk).1) h.d.size,eU h.c h.b a<|by decide,by simpa using e,eU h.a h.b a<|by decide,λj s hs=>?_,λs hs=>?_⟩
 .by_cases r:j<b.length
  .rw[VU r]at hs;exact h.fits j s hs
  rw[VW<|by omega]at hs;have p:j-b.length=0:=by have:=(VZ.1 hs).1;simpa using this
  rw[p]at hs;simp at hs;obtain rfl:j=i:=by omega
  exact⟨n,l,u,y,q,hs.symm⟩
 .obtain hs|hs:=V1.1 hs
  .exact(iE.aL (h.e s hs) λk hk=>(hk.c a o).2).mono (λk hk=>(hk.c a o).1)
  simp at hs;subst hs;exact(iE.aL t λk hk=>(sR.c a o hk).2).mono (λk hk=>(sR.c a o hk).1)
def N7{e c:Zf}{b a l:Nat}{v:Zb}{o p:Y0}(d:w.ownsRow i e b u n o)(g:w.ownsRow j c a v l p)(h:El w.heap.size W.heap.size k):sR W u v k:=
 ⟨h.2,λe=>by have:=(d.lt k e).2;have:=h.1;omega,λe=>by have:=(g.lt k e).2;have:=h.1;omega⟩
structure x5(w:Za)(ss:List<|ay×Zb)(v:Zb):Prop where
 rows:br w w.heap.size 4 Rc ss v
 trees:∀s∈ss,xW w w.heap.size s.1.aW s.2
 ok:∀s∈ss,sS s.1.aW
 len:ss.length<=3
 cap:∀a n c,v=.slice a n c->n<=c
 rules:i4 w
 d: 9<w.heap.size
def x5.below{v:Zb}(h:x5 w r v)(a:qB w W):x5 W r v:=
 ⟨h.rows.below a,λs hs=>((h.trees s hs).aL λk hk=>a.block k hk).more a.size,h.ok,h.len,h.cap,h.rules.aL<|a.block _ h.d,VT h.d a.size⟩
def MH(D:aI)(aN:Y3)(er:Nat):Prop:=bq D [] aN=.error er\/∃is,bq D [] aN=.ok is/\bT D [] is aN=some er
def Ai(w:Za)(D:aI)(lay:Y5)(aN:Y3)(e:Zg)(w':Za):Prop:=qB w w' /\
 ((∃er,MH D aN er/\(er=2\/er=3)/\e=.returned (.tuple #[qN,qN,qI (er:Nat)])) \/
  (∃is ps tv sv cv,bq D [] aN=.ok is/\bT D [] is aN=none/\ps.length=is.length/\pC w w' D lay is aN tv sv cv is.length ps/\e=.returned (.tuple #[sv,cv,qI 0])))
def nG{e:Zf}:w.ownsRow n e k qN 0 []:=VP _ _ _ _
def qd(h:ec K):∀(is:Y4)(aN:Y3),(∀i∈is,i<K.length)->(aw K is aN).length<=is.length*5
 |[],aN,_=>by cases aN<;>simp[aw]
 |i::is,[],_=>by simp[aw]
 |i::is,it::aN,hi=>by have b:=qd h is aN λj a=>hi j (by simp[a]);have c:=(h.2 _<|dS<|hi i<|by simp).b;simp only[aw,VH,cH,Wk];omega
def LH(b:YY):∀u∈kP b,u.oneCell'=true:=by intro u d;obtain⟨c,_,a⟩:=XJ.1 d;simp[lS]at a;obtain rfl|rfl|rfl:=a<;>rfl
def K8(a:YY):(kP a).length=a.length*3:=by
 induction a with
 |nil=>rfl
 |cons c a ih=>
  have e:kP (c::a)=lS c++kP a:=by simp[kP]
  rw[e,VH,ih];simp[lS];omega
def Qu{a:Y5}(h:pY w G n a K)(d:k<K.length)(i:YX):
 Zc prog 106 #[qP<|(a.getD k sr).n,qT i] w λe x=>∃v,e=.returned v/\∃g c,v=qL g (ak K k).a.length c/\qB w x/\∀j u,(kP<|ax i<|ak K k)[j]?=some u->x.cell? ((⟨g,0,none⟩:Addr).add j)=some u:=by
 have l:K[k]?=some K[k]:=VE d;have t:k<a.length:=by rw[h.len];exact d
 have o:a[k]?=some a[k]:=VE t;have y:a.getD k sr=a[k]:=by simp[List.getD,o]
 have z:ak K k=K[k]:=by simp[ak,List.getD,l]
 have p:=h.ok.2 _<|VQ d;rw[y,z];obtain⟨cv,b,r,_⟩:=(h.c k _ _ o l).q;have c1:=bC b 1;simp at c1;refine(Jr i (lB b) c1 (pW r) (by have:=p.b;omega)).mono ?_;rintro e x⟨A,v,rfl,q⟩;obtain⟨g,c,C,B⟩:=Bx q (by have:=p.pos;simp;omega);exact⟨v,rfl,g,c,by simpa using C,A,by rw[yw];exact B⟩
def PV:(prog.info? 284).map (λi=>(i.zero,i.size,i.bytes))=some (some<|.agg #[.pointer none,.bool false,qN],3,40):=by kernel_rfl
def zK{v:Zb}{d:Y5}(h:pY w G n d K)(a:x5 w r v):
 Zc prog 169 #[qP n,v] w (Ai w K d<|r.map (·.1)):=by
 obtain⟨sa,sc,rfl⟩:=a.rows.slice;obtain⟨i0,hi,aG,aH,aJ⟩:=V5 Ka;obtain⟨j0,hj,aC,aD,aE⟩:=V5 PV;have aZ:=a.len;have b:=Z<|L8 h a.rows (λs hs=>(a.trees s hs).ptr) (by omega) a.cap;have V:=Z a;have S:=Z h;clear a h;go_in;go_wp2_with refine b.mono ?_;rintro e w1⟨(HB:Ze _),x⟩;clear b;obtain⟨P,rfl⟩|⟨is,tv,(U:Ze _),rfl,a⟩:=x
 .have b:Ze<|MH K (r.map (·.1)) 2:=.inl P;clear P;go_wp2;go_ret3;exact⟨HB,.inl ⟨2,b,.inl rfl,rfl⟩⟩
 ·obtain ⟨b,(ab:Ze _)⟩:=jT U;simp only[VL]at b;have c:Ze<|pC w w1 K d is (r.map (·.1)) tv qN qN 0 []/\bT K (im K is (r.map (·.1)) 0) (is.drop 0) ((r.map (·.1)).drop 0)=bT K [] is (r.map (·.1)):=
   ⟨⟨HB,a,nG,by simpa[im,aw,kP]using nG,by simp,by simp⟩,by simp[im,aw]⟩
  obtain⟨ta,tc,g⟩:=bN a;have D:=Z b;clear b a;rw[g]at c;rw[g];clear g;go_wp2
  go_loopw [9,10,26] (λs9 aN aO wr=>∃(i:Nat) (Q:List gU),i<=r.length/\aO=qI i/\Q.length=i/\Ze (pC w wr K d is (r.map (·.1)) (.slice ta is.length tc) s9 aN i Q/\bT K (im K is (r.map (·.1)) i) (is.drop i) ((r.map (·.1)).drop i)=bT K [] is (r.map (·.1)))) (λ_ _ a _=>r.length-(Zk a).toNat)
  exact⟨0,[],Wi _,rfl,rfl,c⟩;obtain⟨i,Q,aY,rfl,b,E⟩:=hrel;clear c;have M:=Z b;clear b;have I:=E.1.d;have az:=I.size;obtain⟨ai,aj,rfl⟩:=bN E.1.b;obtain⟨al,am,rfl⟩:=bN E.1.a;generalize b:(im K is (r.map (·.1)) i).length=cl at*;have L:=Z b;clear b;by_cases N:i<r.length
  .have A:r[i]?=some r[i]:=VE N;have u:=VQ N;generalize r[i]=s at*;obtain⟨b,tv⟩:=s;obtain⟨z,(q:Ze _)⟩:∃z,is[i]?=some z:=⟨_,VE<|D▸N⟩;have t:(r.map (·.1))[i]?=some b:=by rw[VO,A];rfl
   obtain⟨g,cap,he,hg,e0,e1,e2,e3⟩:=(V.rows.aL λk hk=>I.block k hk).q A;cases he;have aX:g<wr.heap.size:=by omega
   simp only at e0 e1 e2 e3;obtain⟨a,ha⟩:=(V.trees _ u).ptr;simp only at ha;subst ha;have o:z<K.length:=ab.o z<|VY q;obtain⟨gt,gc,aA,y⟩:=Bx E.1.c (by rw[D];omega);cases aA;have et:wr.cell? ⟨gt,i,none⟩=some (qP<|(d.getD z sr).n):=by have:=y i _ (by rw[GC,VO,q];rfl);rw[addr_add]at this;exact this
   have aR:gt<wr.heap.size:=by have:=(E.1.c.lt gt rfl).2;exact this
   have a1:i<is.length:=by rw[D];exact N
   have h:Ze (∀Y,qB wr Y->_):=λY hW=>Qu (S.below<|I.trans<|hW.mono az) o b.aY;have c:Ze<|im K is (r.map (·.1)) (i+1)=im K is (r.map (·.1)) i++ax b.aY (ak K z):=jk q t;generalize B:(d.getD z sr).n=tn at*;have ae:=Z B;have H:=Z t;have aP:=Z o;have O:=Z u;have R:Ze<|qB wr (wr.alloc<|.cells #[qT b.name,qT b.aY,.bool b.eC,.pointer a] 324).drew:=(qA).drew;have J:Ze (∀Y,qB wr Y->Y.ownsRow w.heap.size 271 3 (.slice al cl am) cl (kP<|im K is (r.map (·.1)) i)):=λY hW=>by have:=aB hW E.1.a;rw[L]at this;exact this
   have p:Ze<|(ak K z).a.length<=5:=(S.ok.2 _<|dS o).b;have l:Ze<|cl<=100:=by
    have:=qd S.ok (is.take i) ((r.map (·.1)).take i) λj hj=>ab j<|Wr hj;have h2:(is.take i).length<=3:=by rw[Wl];omega
    unfold Ze;rw[<-L];unfold im;omega
   have ad:Ze<|(kP<|ax b.aY<|ak K z).length=(ak K z).a.length*3:=by rw[Ze,K8,cH]
   clear B t o u I y A;generalize o:(ak K z).a.length=nc at*;have ac:=Z o;clear o;go_upto_region 9 with fail
   go_region_law (first
    | (refine dQ rfl (.tmp 35) (.tmp 37) rfl pH rfl rfl (h _ R) ?_
       rintro v9 w9⟨g9,c9,rfl,o,(X:Ze _)⟩;have W:Ze<|w9.heap[wr.heap.size]?=some (.cells #[qT b.name,qT b.aY,.bool b.eC,.pointer a] 324):=(o.block _<|by simp[Za.drew]).trans<|Z<|aM wr<|.cells #[qT b.name,qT b.aY,.bool b.eC,.pointer a] 324;have B:=Z<|R.trans<|o.mono R.size
       clear o)
    | (refine kE rfl (.tmp 31) (.tmp 38) rfl i0 underlying207 hi aG aH aJ rfl (by decide) rfl (J _ B) ⟨g9,0,none⟩ nc c9 (kP<|ax b.aY<|ak K z) rfl ad X (Z<|LH<|ax b.aY<|ak K z) (by have:=p.o;have:=l.o;unfold Zj;omega) (by have:=p.o;have:=l.o;omega) (by have:=B.size;omega) ?_
       intro v8 w8 (t:Ze _) (T:Ze _) (F:Ze _)
       skip))
   all_goals
    have y:=(E.1.below B).more (cv':=v8) (w4:=w8) (by rw[c,C4,VH,cH,L,ac];exact t) T F;have C:w8.heap[wr.heap.size]?=some (.cells #[qT b.name,qT b.aY,.bool b.eC,.pointer a] 324):=(T.block _ (lB W) (λe=>by have:=(E.1.a.lt _ e.symm).2;omega)).trans W;have aL:wr.heap.size<w8.heap.size:=lB C;have y2:=bC C;have A:=V.below y.d;have u:=Z<|qh b.aW (im K is (r.map (·.1))<|i+1) (.pointer a) v8 w8 ⟨A.rules,A.d,A.trees _ O,A.ok _ O,c7 (f:=lS) (λ_=>rfl) y.a<|VR _,by rw[c,VH,cH,L,ac];have:=p.o;have:=l.o;omega⟩;obtain⟨an,ap,ao,rfl⟩:=aF y.a;have o:=Z y;have af:=Z C;clear y A C t T F B W X e0 e1 e2 e3 et h J;go_wp2_with refine u.mono ?_;rintro e h⟨t,x⟩;clear u;obtain⟨er,J,rfl⟩|⟨aT,X,rfl,y⟩:=x
    .have u:((er:Int) != 0)=true:=by have:=fu J;simp;omega
     have j:Ze<|Ai w K d (r.map (·.1)) (.returned<|.tuple #[qN,qN,qI (er:Nat)])<|h.alloc<|.cells #[qN] 204:=by refine⟨(o.d.trans<|t.mono o.d.size).alloc (by have:=o.d.size;have:=t.size;omega) _,.inl ⟨er,.inr ⟨is,U,?_⟩,fu J,rfl⟩⟩;rw[<-E.2];rw[c]at J;exact uD q H J
     clear J t;go_wp2;go_ret3;exact j
    ·have T:=o.below t;obtain⟨A,C,B,rfl⟩:=y.slice;have av:Ze<|lM h (sR h (.slice ai Q.length aj)<|.slice an ap ao) (im K is (r.map (·.1))<|i+1) (aK b.aW)<|.slice A C B:=iE.mono y λk hk=>N7 o.b o.a hk;have aU:h.cell? ⟨gt,i,none⟩=some (qP tn):=by
      obtain⟨aW,aV,ag,W⟩:=Bx T.c (by rw[D];omega);cases ag;have:=W i _ (by rw[GC,VO,q];rfl);rw[addr_add]at this;rw[<-ae];exact this
     have z2:=bC<|bB t aL af;have a2:w8.heap.size<=h.heap.size:=t.size;have⟨aQ,aS⟩:gt<h.heap.size/\wr.heap.size<h.heap.size:=by omega
     have a0:Q.length<=3:=by rw[M];omega
     have F:Ze<|qB h<|(h.alloc<|.cells #[.slice A C B] 204).drew.alloc<|.cells #[qP tn,.bool b.eC,.slice A C B] 284:=(qA.drew).alloc (by simp[Za.drew]) _;have ar:Ze (∀j u,[qP tn,.bool b.eC,.slice A C B][j]?=some u->((h.alloc<|.cells #[.slice A C B] 204).drew.alloc<|.cells #[qP tn,.bool b.eC,.slice A C B] 284).cell? ((⟨h.heap.size+1,0,none⟩:Addr).add j)=some u):=by have:=cW (h.alloc<|.cells #[.slice A C B] 204).drew [qP tn,.bool b.eC,.slice A C B] 284;rw[show(h.alloc<|.cells #[.slice A C B] 204).drew.heap.size=h.heap.size+1 by simp[Za.drew]]at this;exact this
     have au:Ze (∀u∈[qP tn,.bool b.eC,.slice A C B],u.oneCell'=true):=by intro u W;simp at W;obtain rfl|rfl|rfl:=W<;>rfl
     have aq:Ze<|bT K (im K is (r.map (·.1))<|i+1) (is.drop<|i+1) ((r.map (·.1)).drop<|i+1)=bT K [] is (r.map (·.1)):=by unfold Ze;rw[<-E.2,c];rw[c]at X;exact(qG q H X).symm
     have aa:=Z T;have ah:w.heap.size<=h.heap.size:=by omega
     clear T y X t y2 af o;go_upto_region 13 with fail
     go_region_law (refine kE rfl (.tmp 50) (.tmp 59) rfl j0 underlying219 hj aC aD aE rfl (by decide) rfl (aB F aa.b) ⟨h.heap.size+1,0,none⟩ 1 1 [qP tn,.bool b.eC,.slice A C B] rfl rfl ar au (by unfold Zj;omega) (by omega) (Z<|Wf ah F.size) ?_
                    intro X w7 (o:Ze _) (T:Ze _) (t:Ze _)
                    skip)
     all_goals
      have y:Ze<|pC w w7 K d is (r.map (·.1)) (qL gt is.length tc) X (.slice an ap ao) (i+1)<|Q++[uy K d (im K is (r.map (·.1))<|i+1) z b<|.slice A C B]:=by
       have e:EG (uy K d (im K is (r.map (·.1))<|i+1) z b<|.slice A C B)=[qP tn,.bool b.eC,.slice A C B]:=by rw[<-ae];rfl
       exact(aa.below F).push M q H ((iE.aL av λk hk=>(sR.below F hk).2).mono λk hk=>(sR.below F hk).1) (e▸o) T t
      clear o T t;go_wp2;go_roundw;exact⟨i+1,_,by omega,by go_num,by rw[VH,M];rfl,y,aq⟩
      case measure=>simp[Zk];omega
  obtain rfl:i=r.length:=by omega
  have g:Ze<|Ai w K d (r.map (·.1)) (.returned<|.tuple #[.slice ai Q.length aj,.slice al cl am,qI 0]) wr:=by have b:=E.1;have c:=E.2;rw[<-D]at b c;rw[Wa]at c;exact⟨b.d,.inr ⟨is,Q,_,_,_,U,by rw[<-c];simp[bT],by rw[M,D],b,rfl⟩⟩
  clear I;go_wp2;go_ret3;exact g
def Am(D:aI)(lay:Y5):YY->Y4->Y3->List gU->Prop
 |ab,i::is,it::aN,s::ss=>(∃u,s=uy D lay (ab++ax it.aY (ak D i)) i it u)/\Am D lay (ab++ax it.aY (ak D i)) is aN ss
 |_,[],[],[]=>True
 |_,_,_,_=>False
def KD:∀{b:List gU}{is:Y4}{aN:Y3}{ab:YY},b.length=is.length->is.length=aN.length ->
 (∀(j:Nat)(s:gU),b[j]?=some s->∃d c u,is[j]?=some d/\aN[j]?=some c/\s=uy K g (ab++aw K (is.take<|j+1) (aN.take<|j+1)) d c u)->Am K g ab is aN b
 |[],[],[],ab,_,_,_=>trivial
 |[],[],_::_,_,_,h,_=>by simp at h
 |[],_::_,_,_,h,_,_=>by simp at h
 |_::_,[],_,_,h,_,_=>by simp at h
 |_::_,_::_,[],_,_,h,_=>by simp at h
 |s::b,i::is,c::aN,ab,h1,h2,h=>by obtain⟨d,a,u,k,l,n⟩:=h 0 s rfl;simp at k l;subst k;subst l;refine⟨⟨u,by rw[n];simp[aw]⟩,KD (by simpa using h1) (by simpa using h2) λj x o=>?_⟩;obtain⟨e,a,t,p,q,r⟩:=h (j+1) x (by simpa using o);refine⟨e,a,t,by simpa using p,by simpa using q,?_⟩;rw[r];simp only[Yd,aw,Wh]
def Ad{α β:Type}:∀{a:List α}{b:List β},a.length<=b.length->(a.zip b).map (·.1)=a
 |[],b,_=>by simp
 |_::_,[],h=>by simp at h
 |x::a,y::b,h=>by simp[Ad (a:=a) (b:=b)<|by simpa using h]
def pY.us(h:pY w G n g K)(c:i<K.length):B_ w G (g.getD i sr) (ak K i)/\(g.getD i sr).us.length=(ak K i).rows.length/\ij (ak K i):=by
 have a:K[i]?=some K[i]:=VE c;have b:g[i]?=some (g[i]'(h.len▸c)):=VE _;have e:g.getD i sr=g[i]'(h.len▸c):=by simp[List.getD,b]
 have j:ak K i=K[i]:=by simp[ak,List.getD,a]
 have d:=h.c i _ _ b a;rw[e,j];exact⟨d,by have:=d.rows.1;omega,h.ok.2 _<|VQ c⟩
def Bd:∀{a:List gU}{is:Y4}{aN:Y3}{ab:YY}{rows:List YW},Am K g ab is aN a->(∀i∈is,(g.getD i sr).us.length=(ak K i).rows.length)->jg a rows=bP K ab rows is aN
 |[],[],[],ab,rows,_,_=>rfl
 |[],[],_::_,_,_,h,_=>h.elim
 |[],_::_,[],_,_,h,_=>h.elim
 |[],_::_,_::_,_,_,h,_=>h.elim
 |_::_,[],[],_,_,h,_=>h.elim
 |_::_,[],_::_,_,_,h,_=>h.elim
 |_::_,_::_,[],_,_,h,_=>h.elim
 |s::a,i::is,it::aN,ab,rows,⟨⟨u,hs⟩,hr⟩,hz=>by
  have c:s.b.map (·.1)=(ak K i).rows:=by rw[hs];exact Ad<|W_ (hz i<|by simp).symm
  unfold jg bP;rw[c];rw[hs];simp only[uy];cases aR (ab++ax it.aY (ak K i)) (aK it.aW) it.eC (ak K i).a.length (ak K i).rows rows with
  |error e=>rfl
  |ok z=>exact Bd hr λj b=>hz j<|by simp[b]
def Gv{c:Y4}{a:ay}{b:Y3}(h:bT K F (i::c) (a::b)=none):aT (F++ax a.aY (ak K i)) (aK a.aW) 3=none/\bT K (F++ax a.aY (ak K i)) c b=none:=by
 rw[bT]at h;cases ht:aT (F++ax a.aY (ak K i)) (aK a.aW) 3 with
 |none=>rw[ht]at h;exact⟨rfl,h⟩
 |some e=>rw[ht]at h;cases h
def Dz(C:ec K):∀{c:List gU}{is:Y4}{aN:Y3}{ab:YY}{rows:List YW},Am K g ab is aN c->(∀i∈is,(g.getD i sr).us.length=(ak K i).rows.length/\i<K.length)->(∀it∈aN,sS it.aW)->bT K ab is aN=none->(∀r∈rows,aZ ab r)->ab.length+5*c.length<=100->rows.length*25 ^ c.length<=20000->pD c rows
 |[],_,_,_,_,_,_,_,_,_,_,_=>trivial
 |_::_,[],[],_,_,h,_,_,_,_,_,_=>h.elim
 |_::_,[],_::_,_,_,h,_,_,_,_,_,_=>h.elim
 |_::_,_::_,[],_,_,h,_,_,_,_,_,_=>h.elim
 |s::c,i::is,it::aN,ab,rows,⟨⟨u,hs⟩,hr⟩,hz,hw,ho,hrow,hc,hn=>by
  obtain⟨G,t⟩:=Gv ho;obtain⟨y,A⟩:=hz i (by simp);have a:=C.2 _<|dS A;have w:s.b.map (·.1)=(ak K i).rows:=by rw[hs];exact Ad<|W_ y.symm
  have x:s.b.length=(ak K i).rows.length:=by rw[<-w];simp
  have d:∀q∈s.b,aZ (ax it.aY<|ak K i) q.1:=λq b=>(a.rows _ (by rw[<-w];exact V0 b)).src;have l:=cH it.aY<|ak K i;have n:s.a=ab++ax it.aY (ak K i):=by rw[hs];rfl
  have B:s.c=aK it.aW:=by rw[hs];rfl
  have F:s.n=(ak K i).a.length:=by rw[hs];rfl
  have J:=a.b;have I:=a.pos;have D:1<=25 ^ c.length:=Nat.one_le_pow _ _ (by omega);have k:rows.length*25*25 ^ c.length<=20000:=by rw[Wk,XK,Xg (25 ^ c.length) 25,<-XG]at hn;exact hn
  have E:rows.length*25<=20000:=Wf (Yv _<|by omega) k;simp only[Wk]at hc;refine⟨⟨?_,?_,?_,?_,by omega,by omega,by omega,by rw[x];exact a.d⟩,?_⟩
  .rw[n,B];obtain⟨j,h,_⟩:=gv G;exact⟨nV<|hw it<|by simp,j,h⟩
  .intro p h q b;have:=(hrow p h).append<|d q b;rw[n];exact⟨this.2.1,W_ this.1.symm⟩
  .intro p h;rw[(hrow p h).1];omega
  .intro q b;have:=(d q b).1;refine⟨by omega,λe=>?_⟩;rw[e]at this;simp at this;omega
  intro z h;rw[w,n,B,F,<-l]at h;obtain⟨p,H⟩:=lW (λq b=>(a.rows q b).src) a.d hrow h;refine Dz C hr (λj o=>hz j<|by simp[o]) (λj o=>hw j<|by simp[o]) t p (by rw[VH];omega)<|Wf (Wy _ H) k
def Am.at:∀{b:List gU}{is:Y4}{aN:Y3}{ab:YY},Am K g ab is aN b->∀s∈b,∃c i a u,i∈is/\s=uy K g c i a u
 |[],_,_,_,_,s,hs=>by simp at hs
 |_::_,[],[],_,h,_,_=>h.elim
 |_::_,[],_::_,_,h,_,_=>h.elim
 |_::_,_::_,[],_,h,_,_=>h.elim
 |x::b,i::is,a::aN,ab,⟨⟨u,hx⟩,hr⟩,s,hs=>by
  obtain rfl|hs:=V8.1 hs
  .exact⟨_,i,a,u,by simp,hx⟩
  obtain⟨c,j,h,k,d,e⟩:=Am.at hr s hs;exact⟨c,j,h,k,by simp[d],e⟩
def QC(h:pY w G n g K)(t:i<K.length){C:ay}{s:gU}(B:s=uy K g F i C u)(z:i7 w w.heap.size s.a s.c s.e):zI w w.heap.size s.a s.g s.d s.c s.b s.n s.e:=by
 obtain⟨l,r,k⟩:=h.us t;obtain⟨cv,b,o,_⟩:=l.q;have c1:=bC b 1;have c2:=bC b 2;simp at c1 c2;subst B;refine⟨z,lB b,⟨_,c2,?_⟩,λq A=>?_,?_⟩
 ·refine c7 (f:=λp:au=>[p.2]) (λ_=>rfl) (base:=0) (e:=32) ?_<|VR _;have e:((ak K i).rows.zip (g.getD i sr).us).flatMap (λp:au=>[p.2])=(g.getD i sr).us:=by
   rw[yy];unfold df;have:∀(a:List YW) (n:Y0),n.length=a.length->(a.zip n).map (·.2)=n:=λa=>by
    induction a with
    |nil=>intro n c;simp at c;subst c;rfl
    |cons x a ih=>intro n c;cases n with
     |nil=>rfl
     |cons y n=>simp[ih n<|by simpa using c]
   exact this _ _ r
  show w.ownsRow 0 _ 1 _ ((ak K i).rows.zip (g.getD i sr).us).length (((ak K i).rows.zip (g.getD i sr).us).flatMap λp:au=>[p.2]);rw[e,WS,r,XB];exact l.rows
 .obtain⟨j,d,c⟩:=Xe A;have a:((ak K i).rows.zip (g.getD i sr).us)[j]?=some q:=by rw[<-c];exact VE d
  rw[Xk]at a;refine oJ.own (l.each j q.1 q.2 a.1 a.2).1 λe=>?_;have:=(k.rows q.1<|VY a.1).1;rw[e,cH]at this;have:=k.pos;simp at*;omega
 obtain⟨a,c,d⟩:=bN o;subst d;exact⟨a,c,c1⟩
def JA(c:ah):cY<|eB c.src c.name:=by
 refine⟨?_,?_,?_⟩
 .simp[eB,ib]
 .simp[eB,gI]
 simp[eB,eH]
def Ha(a:YY):∀t∈jq a,cY t:=by intro t b;obtain⟨c,_,rfl⟩:=VV.1 b;exact JA c
def kh(D:aI)(s:aX)(is:Y4):aV<|List YW:=match bP D [] [[]] is s.b with
 |.error e=>.error e
 |.ok rows=>fb (aw D is s.b) s rows
def Fh{s:aX}(h:bq K [] s.b=.error n):ch K s=.error n:=by unfold ch;rw[h]
def Fi{s:aX}{a:Y4}(h:bq K [] s.b=.ok a)(b:bT K [] a s.b=some n):ch K s=.error n:=by unfold ch;rw[h];simp only[b]
def Fj{s:aX}{a:Y4}(h:bq K [] s.b=.ok a)(b:bT K [] a s.b=none)(c:bE (aw K a s.b) (cZ s<|aw K a s.b)=some n):ch K s=.error n:=by unfold ch;rw[h];simp only[b,c]
def Fk{s:aX}{a:Y4}(h:bq K [] s.b=.ok a)(b:bT K [] a s.b=none)(c:bE (aw K a s.b) (cZ s<|aw K a s.b)=none)(d:aT (aw K a s.b) (aK s.d) 3=some n):ch K s=.error n:=by unfold ch;rw[h];simp only[b,c,d]
def Fl{s:aX}{a:Y4}(h:bq K [] s.b=.ok a)(b:bT K [] a s.b=none)(c:bE (aw K a s.b) (cZ s<|aw K a s.b)=none)(d:aT (aw K a s.b) (aK s.d) 3=none)(e:bE (aw K a s.b) (s.e.map (·.aW))=some n):ch K s=.error n:=by unfold ch;rw[h];simp only[b,c,d,e]
def Fm{s:aX}{a:Y4}(h:bq K [] s.b=.ok a)(b:bT K [] a s.b=none)(c:bE (aw K a s.b) (cZ s<|aw K a s.b)=none)(d:aT (aw K a s.b) (aK s.d) 3=none)(e:bE (aw K a s.b) (s.e.map (·.aW))=none):ch K s=kh K s a:=by unfold ch kh;rw[h];simp only[b,c,d,e];cases bP K [] [[]] a s.b<;>rfl
def Eh(l:Int):Int:=if l=-1 then 9223372036854775807 else l
structure Al(w:Za)(n:Nat)(s:aX)(ss:List<|ay×Zb)(vs:List<|aA×Zb)(ks:List Key)(u x v o:Zb):Prop where
 q:w.heap[n]?=some (.cells #[.bool s.a,u,x,v,o,qI<|Eh s.g,qI s.offset] 229)
 b:x5 w ss x
 g:ss.map (·.1)=s.b
 all:s.all=true->u=qN
 c:s.all=false->jU w w.heap.size vs u/\vs.map (·.1)=s.c.map (·.aW)/\vs≠[]
 d:xW w w.heap.size s.d v
 e:Mu w w.heap.size ks o
 a:ks.map (·.1)=s.e.map (·.aW)
 h:pG ks=s.e.map (·.eC)
 ok:eL s
 aC:s.aC=115
def Al.below{s:aX}{d:List (aA×Zb)}{c:List Key}{x v:Zb}(h:Al w n s r d c u x v z)(a:qB w W):Al W n s r d c u x v z:=
 ⟨bB a (lB h.q) h.q,h.b.below a,h.g,h.all,λb=>⟨(h.c b).1.below a,(h.c b).2⟩,(h.d.aL λk hk=>a.block k hk).more a.size,⟨h.e.1.below a,λk hk=>((h.e.2 k hk).aL λj e=>a.block j e).more a.size⟩,h.a,h.h,h.ok,h.aC⟩
def US{s:aX}{i:List (aA×Zb)}{p:List Key}{v:Zb}(h:Al w n s r i p u z v A)(b:br w w.heap.size 3 lS F B)(o:F.length<=1000):
 Zc prog 171 #[qP n,B] w (Aj w<|cZ s F):=by
 have c1:=bC h.q 1;simp at c1;have e:=lB h.q;unfold cZ;cases ha:s.all with
 |true=>
  rw[h.all ha]at c1;simp only[if_true];exact Mk e c1 b o
 |false=>
  obtain⟨d,j,k⟩:=h.c ha;simp only[WJ,if_false];obtain⟨a,c,rfl,l⟩:=d.1;obtain⟨g,rfl,q,_⟩:=l k;apply qS<|JP B e c1;exact⟨VM _ _,_,i,rfl,j,d⟩
def QQ{s:aX}(c:eL s)(d:s.aC=115)(b:YY):∀t∈cZ s b,cY t:=by
 unfold cZ;intro t a;split at a
 .exact Ha b t a
 obtain⟨i,hi,rfl⟩:=VV.1 a;exact c.c (by omega) i hi
def Ht{s:aX}(c:eL s)(a:YY)(b:a.length<=600):(cZ s a).length<=600:=by
 unfold cZ;split
 .simp[jq];exact b
 have:=c.len;simpa using this
def yB:∀{b:Y6}{a:Nat},bE F b=some a->a=2\/a=3
 |[],a,h=>by simp[bE]at h
 |t::b,a,h=>by
  rw[bE]at h;cases ht:bD F t with
  |error e=>
   rw[ht]at h;simp at h;subst h;have:aT F t 0=some e:=by rw[aT,ht]
   exact fu this
  |ok ty=>rw[ht]at h;exact yB h
structure rR(w:Za)(D:aI)(lay:Y5)(s:aX)(is:Y4)(ps:List gU)(vs os:List<|aA×Zb)(sv vv wv ov:Zb):Prop where
 a:is.length=s.b.length/\∀i∈is,i<D.length
 n:bT D [] is s.b=none
 e:Am D lay [] is s.b ps
 b:br w w.heap.size 3 EG ps sv
 o:∀x∈ps,i7 w w.heap.size x.a x.c x.e
 c:jD w w.heap.size (aw D is s.b) vs vv
 j:vs.map (·.1)=cZ s (aw D is s.b)
 g:∀p∈vs,gR (aw D is s.b) p.1
 d:i7 w w.heap.size (aw D is s.b) (aK s.d) wv
 q:gR (aw D is s.b)<|aK s.d
 k:jD w w.heap.size (aw D is s.b) os ov
 h:os.map (·.1)=s.e.map (·.aW)
 l:∀p∈os,gR (aw D is s.b) p.1
def rR.below{s:aX}{b:Y4}{d:List gU}{e c:List (aA×Zb)}(h:rR w K g s b d e c u z A B)(a:qB w W):rR W K g s b d e c u z A B:=
 ⟨h.a,h.n,h.e,h.b.below a,λx i=>(h.o x i).below a,h.c.below a,h.j,h.g,h.d.below a,h.q,h.k.below a,h.h,h.l⟩
def J2(w:Za)(D:aI)(lay:Y5)(s:aX)(e:Zg)(w':Za):Prop:=qB w w' /\
 ((∃er:Nat,ch D s=.error er/\(er=2\/er=3)/\e=.returned (.tuple #[.agg #[qN,qN,qN,qN],qI (er:Nat)])) \/
  (∃is ps vs os sv vv wv ov,ch D s=kh D s is/\e=.returned (.tuple #[.agg #[sv,vv,wv,ov],qI 0])/\rR w' D lay s is ps vs os sv vv wv ov))
def RZ(a:YY):∀(t:aA)(b:Nat),ib t->cy a b t≠[]
 |.nil,b,h=>h.elim
 |.node x y p l r,b,h=>by
  unfold cy;split
  .simp
  split
  .simp
  split
  .simp
  split<;>simp
def br.apart{α:Type}{l:Nat}{f:α->Y0}{d:List α}{v:Zb}(h:br w l n f d v)(D:w.cell? ⟨k,0,none⟩=some z)(r:∀x∈d,∃y,(f x)[0]?=some y/\y≠z)(A:∀j,j≠k->W.heap[j]?=w.heap[j]?):br W l n f d v:=by obtain⟨a,cap,rfl,p⟩:=h;refine⟨a,cap,rfl,λo=>?_⟩;obtain⟨g,rfl,t,e⟩:=p o;refine⟨g,rfl,t,λi c q j u B=>(VK<|A g ?_).trans<|e i c q j u B⟩;rintro rfl;obtain⟨x,E,rfl⟩:=List.exists_cons_of_ne_nil o;obtain⟨y,C,b⟩:=r x (by simp);have:=e 0 x rfl 0 y C;simp at this;rw[D]at this;injection this with this;exact b this.symm
def i7.apart(h:i7 w n F R u)(b:w.cell? ⟨k,0,none⟩=some qN)(a:∀j,j≠k->W.heap[j]?=w.heap[j]?):i7 W n F R u:=
 br.apart h b (λx _=>⟨_,rfl,by simp⟩) a
def jD.apart{b:List (aA×Zb)}{v:Zb}(h:jD w n F b v)(o:∀p∈b,gR F p.1)(l:w.cell? ⟨k,0,none⟩=some qN)(g:∀j,j≠k->W.heap[j]?=w.heap[j]?):jD W n F b v:=by refine⟨br.apart h.1 l (λx i=>⟨_,rfl,λe=>?_⟩) g,λp q=>i7.apart (h.2 p q) l g⟩;obtain⟨a,c,d,r⟩:=h.2 x i;rw[e]at d;injection d with e3 e4 e5;exact RZ F x.1 0 (o x i).1.1<|V3.1 e4.symm
def rR.apart{s:aX}{d:Y4}{i:List gU}{l e:List (aA×Zb)}(h:rR w K g s d i l e u z A B)(c:w.cell? ⟨k,0,none⟩=some qN)(b:W.heap.size=w.heap.size)(a:∀j,j≠k->W.heap[j]?=w.heap[j]?):rR W K g s d i l e u z A B:=by
 refine⟨h.a,h.n,h.e,?_,λx n=>?_,?_,h.j,h.g,?_,h.q,?_,h.h,h.l⟩
 .rw[b];exact br.apart h.b c (λx _=>⟨_,rfl,by simp⟩) a
 .rw[b];exact(h.o x n).apart c a
 .rw[b];exact h.c.apart h.g c a
 .rw[b];exact h.d.apart c a
 rw[b];exact h.k.apart h.l c a
def tO(w:Za)(k:Nat)(a b c d:Zb):Za:=(((w.setCell ⟨k,0,none⟩ a).setCell ⟨k,1,none⟩ b).setCell ⟨k,2,none⟩ c).setCell ⟨k,3,none⟩ d
def sU{T:Zf}(h:w.heap[k]?=some (.cells #[u,z,A,B] T))(a b c d:Zb):(tO w k a b c d).heap[k]?=some (.cells #[a,b,c,d] T):=by unfold tO;have:=bS (bS (bS (bS h 0 a) 1 b) 2 c) 3 d;simpa using this
def Qm(j:Nat)(a:j≠k):(tO w k u z A B).heap[j]?=w.heap[j]?:=by unfold tO;rw[VN _ _ _ _ a,VN _ _ _ _ a,VN _ _ _ _ a,VN _ _ _ _ a]
def vE(h:qB w W)(a b c d:Zb):qB w<|tO W w.heap.size a b c d:=by unfold tO;exact(((h.setCell (VR _) a).setCell (VR _) b).setCell (VR _) c).setCell (VR _) d
def Dq(w:Za)(k:Nat)(a b c d:Zb):(tO w k a b c d).heap.size=w.heap.size:=by unfold tO;simp[size_set]
def Om{lay:Y5}{s:aX}(b:qB w W)(h:ch K s=.error n)(a:n=2\/n=3):J2 w K lay s (.returned<|.tuple #[.agg #[qN,qN,qN,qN],qI (n:Nat)])<|tO W w.heap.size qN qN qN qN:=
 ⟨vE b _ _ _ _,.inl ⟨n,h,a,rfl⟩⟩
def Ch{b:Nat}{s:aX}{vs:List (aA×Zb)}{ks:List Key}{v:Zb}(h:pY w G b g K)(d:Al w n s r vs ks u z v A):
 Zc prog 110 #[qP b,qP n] w (J2 w K g s):=by
 have c2:=bC d.q;have hn:=lB d.q;have c:qB w<|w.alloc<|.cells #[qN,qN,qN,qN] 221:=qA;have a:=Z<|zK (h.below c)<|d.b.below c;rw[d.g]at a;have t:=Z d;have aV:=Z h;have ar:=Z c;obtain⟨xa,xc,rfl⟩:=d.b.rows.slice;clear h d c;go_in;go_wp2_with refine a.mono ?_;rintro e w1⟨B,d⟩;clear a;have o:qB w w1:=ar.trans<|B.mono ar.size;have i:=bB B (by simp)<|Z<|aM w<|.cells #[qN,qN,qN,qN] 221;have au:=Z o;have aG:=Z i;have bb:=lB i;obtain⟨M,a,q,rfl⟩|⟨is,Y,tv,sv,cv,(O:Ze _),(C:Ze _),F,H,rfl⟩:=d
 .have D:((M:Int) != 0)=true:=by simp;omega
  have p:=Z<|Om (lay:=g) o (a.elim (λh=>Fh h) λ⟨is,x,y⟩=>Fi x y) q;have E:=bC i 0;have I:=bC i 1;have J:=bC i 2;have L:=bC i 3;have N:=bF i 0;have P:=bF i 1;have Q:=bF i 2;have R:=bF i 3;simp at E I J L;clear a q B o i;go_wp2_with fail;refine VI (v:=.tuple #[.agg #[qN,qN,qN,qN],qI (M:Nat)]) ?_ rfl p;have rb:=sU aG qN qN qN qN;have c:=bC rb 0;have j:=bC rb 1;have k:=bC rb 2;have l:=bC rb 3;simp[tO]at c j k l;simp[Zh,results110,go_sem,c,j,k,l]
 ·obtain ⟨D,p⟩:=jT O;have l:br w1 w1.heap.size 3 lS (aw K is s.b) cv:=by
   have:=c7 (f:=lS) (λ_=>rfl) H.a<|VR _;rw[im,Wj,D,Wj]at this;exact this
  have J:Am K g [] is s.b Y:=KD F D (λj z hx=>by simpa[im]using H.fits j z hx);have y:br w1 w1.heap.size 3 EG Y sv:=c7 (f:=EG) (λ_=>rfl) H.b<|VR _;have x:∀z∈Y,i7 w1 w1.heap.size z.a z.c z.e:=λz hx=>(H.e z hx).prog λk hk=>hk.1;obtain⟨U,V,ba⟩:=bN H.b;obtain⟨a5,a7,a6,rfl⟩:=aF H.a;subst ba;have aS:(aw K is s.b).length<=600:=by have Q:=qd aV.ok is s.b p;have R:=t.b.len;have P:=Wd List.length t.g;simp at P;omega
  generalize L:aw K is s.b=ab at*;have E:=Z<|US (t.below o) l (by omega);have I:=Z l;have a2:=Z J;have ai:=Z y;have ah:=Z x;have aW:=Z<|And.intro D p;have c:=Z L;clear l J y x H D p L B o i F;go_wp2_with refine E.mono ?_;rintro e w2⟨(D:Ze _),bs,aq,rfl,(o:Ze _),l⟩;have x:qB w w2:=au.trans<|D.mono au.size;have B:=bB D bb aG;have av:=Z x;have aZ:=Z B;have bc:=lB B;have y:=t.below x;obtain⟨bp,bq,rfl⟩:=l.1.slice;have i:∀p∈aq,cY p.1:=λp hp=>QQ t.ok t.aC ab p.1 (by rw[<-o];exact V0 hp);have a9:aq.length<=1000:=by have P:=Ht t.ok ab aS;have H:=Wd List.length o;simp at H;omega
  have J:=Z<|yR y.b.rules y.b.d l i (I.below D) (by omega) a9;have aB:=Z i;clear E x B y l i;go_wp2_with refine J.mono ?_;rintro e w3⟨(L:Ze _),d⟩;have B:qB w w3:=av.trans<|L.mono av.size;have i:=bB L bc aZ;have ax:=Z B;have aH:=Z i;have bd:=lB i;clear J;obtain⟨M,a,rfl⟩|⟨N,F,bt,(ae:Ze _),rfl,y⟩:=d
  .have q:=yB a;have Q:((M:Int) != 0)=true:=by simp;omega
   have P:=Z<|Om (lay:=g) B (Fj O C (by rw[c,<-o];exact a)) q;have R:=bC i 0;have S:=bC i 1;have T:=bC i 2;have W:=bC i 3;have X:=bF i 0;have f1:=bF i 1;have f2:=bF i 2;have f3:=bF i 3;simp at R S T W;clear a q B i;go_wp2_with fail;refine VI (v:=.tuple #[.agg #[qN,qN,qN,qN],qI (M:Nat)]) ?_ rfl P;have rb:=sU aH qN qN qN qN;have l:=bC rb 0;have x:=bC rb 1;have E:=bC rb 2;have H:=bC rb 3;simp[tO]at l x E H;simp[Zh,results110,go_sem,l,x,E,H]
  have l:=t.below B;have d3:=bC l.q 3;simp at d3;have bi:=lB l.q;obtain⟨va,E⟩:=l.d.ptr;have x:=Z<|qh s.d ab v (.slice a5 a7 a6) w3 ⟨l.b.rules,l.b.d,l.d,l.ok.d,(I.below D).below L,by omega⟩;rw[E]at x d3;obtain⟨W,X,rfl⟩:=y.1.slice;have aa:=Z N;have aE:=Z y;clear B i l N y E;go_wp2_with refine x.mono ?_;rintro e w4⟨P,d⟩;have Q:qB w w4:=ax.trans<|P.mono ax.size;have i:=bB P bd aH;have ac:=Z P;have be:=lB i;clear x;obtain⟨M,a,rfl⟩|⟨wv,(aj:Ze _),rfl,l⟩:=d
  .have q:=fu a;have S:((M:Int) != 0)=true:=by simp;omega
   have R:Ze<|J2 w K g s (.returned<|.tuple #[.agg #[qN,qN,qN,qN],qI (M:Nat)])<|(tO w4 w.heap.size qN qN qN qN).alloc<|.cells #[qN] 204:=
    ⟨(vE Q qN qN qN qN).alloc (by rw[Dq];omega) _,.inl ⟨M,Fk O C (by rw[c,<-o];exact aa)<|c▸a,q,rfl⟩⟩
   have T:=bC i 0;have q1:=bC i 1;have q2:=bC i 2;have q3:=bC i 3;have f0:=bF i 0;have f1:=bF i 1;have f2:=bF i 2;have f3:=bF i 3;simp at T q1 q2 q3;have x:=Z i;clear a q P Q i;go_wp2_with fail;refine VI (v:=.tuple #[.agg #[qN,qN,qN,qN],qI (M:Nat)]) ?_ rfl R;have rb:=bA (sU x qN qN qN qN)<|.cells #[qN] 204;have y:=bC rb 0;have B:=bC rb 1;have E:=bC rb 2;have H:=bC rb 3;simp[tO]at y B E H;simp[Zh,results110,go_sem,y,B,E,H]
  obtain⟨x,B,y,rfl⟩:=l.slice;have T:i7 w4 w4.heap.size ab (aK s.d)<|.slice x B y:=l.prog λk hk=>hk.2;have R:qB w4<|w4.alloc<|.cells #[.slice x B y] 204:=qA;have a3:=Z<|aM w4<|.cells #[.slice x B y] 204;have aY:=Z T;have H:=Z Q;have a0:=Z i;generalize a8:w4.alloc (.cells #[.slice x B y] 204)=w5 at*;have S:qB w w5:=H.trans<|R.mono H.size;have E:=t.below S;have aD:=Z<|Eo E.e (by have h1:=E.ok.h;have h2:=Wd List.length E.a;simp at h2;omega);have d4:=bC (t.below H).q 4;simp at d4;have bj:=lB (t.below H).q;obtain⟨oa,oc,rfl⟩:=E.e.1.slice;have ak:=Z R;subst a8;clear P Q i l T R S E;go_wp2_with refine aD.mono ?_;rintro e w6⟨R,bo,ao,rfl,E,T⟩;have bf:w4.heap.size<w6.heap.size:=by have:=R.size;simp at this;omega
  have al:qB w w6:=(H.trans<|ak.mono H.size).trans<|R.mono (by have:=H.size;simp;omega);have l:qB w4 w6:=ak.trans<|R.mono ak.size;have an:=bB l be a0;have az:=Z al;have a1:=Z an;have a4:=Z<|bB R (by simp) a3;have bg:=lB an;have am:=t.below al;obtain⟨bm,bn,rfl⟩:=T.1.slice;have S:∀p∈ao,cY p.1:=λp hp=>by
   have hm:p.1∈ks.map (·.1):=by rw[<-E];exact V0 hp
   rw[t.a]at hm;obtain⟨i,hi,h1⟩:=VV.1 hm;rw[<-h1];exact t.ok.e i hi
  have a_:ao.length<=1000:=by have h1:=t.ok.h;have h2:=Wd List.length t.a;have i:=Wd List.length E;simp at h2 i;omega
  have Q:qB w1 w6:=((D.trans<|L.mono D.size).trans<|ac.mono (by have:=D.size;have:=L.size;omega)).trans<|l.mono (by have:=D.size;have:=L.size;have:=ac.size;omega);have ag:qB w3 w6:=ac.trans<|l.mono ac.size;have J:=Z<|yR am.b.rules am.b.d T S (I.below Q) (by omega) a_;have P:=Z E;have aC:=Z S;have af:=Z Q;have aL:=Z ag;have aN:=Z l;clear aD R al an am E T S Q ag l;go_wp2_with refine J.mono ?_;rintro e w7⟨E,d⟩;have T:qB w w7:=az.trans<|E.mono az.size;have l:=bB E bg a1;have ad:=bB E bf a4;have aJ:=Z l;have bl:=lB l;have bh:=lB ad;have x7:=bC ad;have q0:=bC l 0;have q1:=bC l 1;have q2:=bC l 2;have q3:=bC l 3;have f0:=bF l 0;have f1:=bF l 1;have f2:=bF l 2;have f3:=bF l 3;simp at q0 q1 q2 q3;clear J;obtain⟨M,a,rfl⟩|⟨N,S,ap,Q,rfl,J⟩:=d
  .have q:=yB a;have bk:((M:Int) != 0)=true:=by simp;omega
   have HE:=Z<|Om (lay:=g) T (Fl O C (by rw[c,<-o];exact aa) (c▸aj) (by rw[c,<-t.a,<-P];exact a)) q;clear a q E T l ad;go_wp2_with fail;refine VI (v:=.tuple #[.agg #[qN,qN,qN,qN],qI (M:Nat)]) ?_ rfl HE;have rb:=sU aJ qN qN qN qN;have a:=bC rb 0;have i:=bC rb 1;have q:=bC rb 2;have R:=bC rb 3;simp[tO]at a i q R;simp[Zh,results110,go_sem,a,i,q,R]
  obtain⟨aT,aU,R⟩:=J.1.slice;have aQ:∀p∈F,gR ab p.1:=λp hp=>by
   have hm:p.1∈aq.map (·.1):=by rw[<-ae];exact V0 hp
   obtain⟨z,hx,h1⟩:=VV.1 hm;exact⟨by rw[<-h1];exact aB z hx,m_ aa _ hm⟩
  have aP:∀p∈S,gR ab p.1:=λp hp=>by
   have hm:p.1∈ao.map (·.1):=by rw[<-Q];exact V0 hp
   obtain⟨z,hx,h1⟩:=VV.1 hm;exact⟨by rw[<-h1];exact aC z hx,m_ N _ hm⟩
  have aR:gR ab<|aK s.d:=by obtain⟨ty,h1,_⟩:=gv aj;exact⟨nV t.ok.d,ty,h1⟩
  have i:=af.trans<|E.mono af.size;have aO:rR w7 K g s is Y F S (.slice U Y.length V) (.slice W F.length X) (.slice x B y) ap:=by
   refine⟨aW,C,a2,ai.below i,λz hx=>(ah z hx).below i,?_,?_,?_,?_,?_,?_,?_,?_⟩
   .rw[c];exact(aE.below aL).below E
   .rw[c,ae,o]
   .rw[c];exact aQ
   .rw[c];exact(aY.below aN).below E
   .rw[c];exact aR
   .rw[c];exact J
   .rw[Q,P,t.a]
   rw[c];exact aP
  have HE:Ze<|J2 w K g s (.returned<|.tuple #[.agg #[.slice U Y.length V,.slice W F.length X,.slice x B y,ap],qI 0])<|tO w7 w.heap.size (.slice U Y.length V) (.slice W F.length X) (.slice x B y) ap:=
   ⟨vE T _ _ _ _,.inr ⟨is,Y,F,S,_,_,_,_,Fm O C (by rw[c,<-o];exact aa) (c▸aj) (by rw[c,<-t.a,<-P];exact N),rfl,aO.apart q0 (Dq _ _ _ _ _ _) Qm⟩⟩
  rw[R]at HE;rw[R];clear N Q J aQ aP aR i aO E T l ad R;go_wp2_with fail;refine VI (v:=.tuple #[.agg #[.slice U Y.length V,.slice W F.length X,.slice x B y,.slice aT S.length aU],qI 0]) ?_ rfl HE;have rb:=sU aJ (.slice U Y.length V) (.slice W F.length X) (.slice x B y)<|.slice aT S.length aU;have i:=bC rb 0;have l:=bC rb 1;have E:=bC rb 2;have J:=bC rb 3;simp[tO]at i l E J;simp[Zh,results110,go_sem,i,l,E,J]
def kQ{b:Y6}:∀{a:List YW}{e:Nat},aU F b a=.error e->e=4\/e=5
 |[],e,h=>by simp[aU]at h
 |r::a,e,h=>by
  rw[aU]at h;cases ha:bH F r b with
  |error e'=>rw[ha]at h;cases h;exact kF ha
  |ok v=>
   rw[ha]at h;simp only at h;cases hr:aU F b a with
   |error e'=>rw[hr]at h;cases h;exact kQ hr
   |ok vs=>rw[hr]at h;cases h
def qK:∀{a:YZ}{e:Nat},cu F R a=.error e->e=4\/e=5
 |[],e,h=>by simp[cu]at h
 |r::a,e,h=>by
  rw[cu]at h;cases ha:bZ F r.1 R with
  |error e'=>rw[ha]at h;cases h;exact jc ha
  |ok v=>
   rw[ha]at h;simp only at h;cases hr:cu F R a with
   |error e'=>rw[hr]at h;cases h;exact qK hr
   |ok z=>rw[hr]at h;cases h
def uu:∀{a:List gU}{rows:List YW}{e:Nat},jg a rows=.error e->e=4\/e=5
 |[],rows,e,h=>by simp[jg]at h
 |s::a,rows,e,h=>by
  rw[jg]at h;cases hj:aR s.a s.c s.d s.n (s.b.map (·.1)) rows with
  |error e'=>rw[hj]at h;cases h;exact nA hj
  |ok z=>rw[hj]at h;exact uu h
def Fp{s:aX}(h:cu F (aK s.d) o=.error n):fb F s (o.map (·.1))=.error n:=by rw[fb,fE,h];rfl
def Fq{s:aX}{z:YZ×YZ}(h:cu F (aK s.d) o=.ok z)(a:aU F (s.e.map (·.aW)) (z.1.map (·.1))=.error n):fb F s (o.map (·.1))=.error n:=by rw[fb,fE,h];simp only[wQ,a]
def Fs{s:aX}{z:YZ×YZ}(h:cu F (aK s.d) o=.ok z)(a:aU F (s.e.map (·.aW)) (z.1.map (·.1))=.ok N)(b:aU F (cZ s F) (fA (z.1.map (·.1)) N<|s.e.map (·.eC))=.error n):fb F s (o.map (·.1))=.error n:=by rw[fb,fE,h];simp only[wQ,a,b]
def Ft{s:aX}{z:YZ×YZ}(h:cu F (aK s.d) o=.ok z)(a:aU F (s.e.map (·.aW)) (z.1.map (·.1))=.ok N)(b:aU F (cZ s F) (fA (z.1.map (·.1)) N<|s.e.map (·.eC))=.ok O):fb F s (o.map (·.1))=.ok (gQ (if s.a=true then j8 O else O) s.offset s.g):=by rw[fb,fE,h];simp only[wQ,a,b]
def zJ{s:aX}{a:Y4}(h:bP K [] [[]] a s.b=.error n):kh K s a=.error n:=by unfold kh;rw[h]
def Az{s:aX}{a:Y4}(h:bP K [] [[]] a s.b=.ok N):kh K s a=fb (aw K a s.b) s N:=by unfold kh;rw[h]
def eN{P:Program}{h:Array Oper}{o:Oper}{a:Act}{K:Act->Za->Prop}{Q:Exit->Act->Za->Prop}{E:Prop}
 (q:o.guard=none){f:Nat}(x y z:Operand){C:Array Zf}(l:o.op=Op.call {callee:=Callee.value<|Operand.func f,args:=#[x,y,z],argTypes:=C})
 {i j k:Zb} (d:(Zi f #[i,j,k]).run P w=.ok (.enter f #[i,j,k]) w) (u:a.eval x=i) (A:a.eval y=j) (B:a.eval z=k) {b:Zb->Za->Prop} (p:Zc P f #[i,j,k] w λe c=>∃v,e=.returned v/\b v c)
 (n:∀v c,b v c->K (a.put o.dst v) c):
 if Region.wanted o (yielded h a.tmps)=true then Oper.wp P o a w K Q else E:=by
 have t:Region.wanted o (yielded h a.tmps)=true:=by simp[Region.wanted,q]
 rw[VG t];have g:(execOp a.eval o).run P w=.ok (.enter f #[i,j,k]) w:=by rw[<-d,<-u,<-A,<-B];simp[execOp,l,resolve,invoke,go_sem,Act.eval]
 unfold Oper.wp;rw[g,Oper.upon_enter];refine p.mono ?_;rintro e c⟨v,rfl,r⟩;exact n v c r
def FK{d:Y_}:(Zi 112 d).run prog w=.ok (.enter 112 d) w:=by
 have g:(f112.name == "runtime.NumGoroutine")=false:=by kernel_rfl
 have c: f112.body.isNone=false:=by kernel_rfl
 have a:¬f112.name = "runtime.NumGoroutine":=by simpa using g
 have b:¬f112.body=none:=by intro e;rw[e]at c;cases c
 simp[Zi,go_sem,func112,a,b]
def AV{d:Y_}:(Zi 115 d).run prog w=.ok (.enter 115 d) w:=by
 have g:(f115.name == "runtime.NumGoroutine")=false:=by kernel_rfl
 have c: f115.body.isNone=false:=by kernel_rfl
 have a:¬f115.name = "runtime.NumGoroutine":=by simpa using g
 have b:¬f115.body=none:=by intro e;rw[e]at c;cases c
 simp[Zi,go_sem,func115,a,b]
def fP.sub(h:fP w n o)(a:p.Sublist o):fP w n p:=⟨λq b=>h.1 q<|a.subset b,h.2.sublist a⟩
def fP.low(h:fP w n o)(a:k<=n):fP w k o:=⟨λq b=>bU (h.1 q b) a,h.2⟩
def vS:Prop:=∀(qs:YZ)(v:Zb)(base:Nat)(w:Za),kO w->w.ownsRow base 32 1 v qs.length (df qs)->fP w base qs->qs.length<=20000->(∀q∈qs,q.1.length<=1000/\gY q.1) ->
 Zc prog 114 #[v] w λe w'=>qB w w'/\∃rs u,e=.returned u/\rs.map (·.1)=j8 (qs.map (·.1))/\rs.Sublist qs/\w'.ownsRow w.heap.size 32 1 u rs.length (df rs)
def pZ(w:Za)(o:aV<|List YW)(e:Zg)(w':Za):Prop:=qB w w' /\
 ((∃er,o=.error er/\e=.returned (.tuple #[qN,qI (er:Nat)])) \/
  (∃qs v,o=.ok (qs.map (·.1))/\e=.returned (.tuple #[v,qI 0])/\w'.ownsRow w.heap.size 32 1 v qs.length (df qs)/\fP w' w.heap.size qs))
def GA(c:YZ)(b:Int)(e:0<=a)(d:b=-1\/0<=b)(g:c.length<=20000):(part c a.toNat (Eh b).toNat).map (·.1)=gQ (c.map (·.1)) a b:=by
 unfold part gQ Eh;obtain rfl|d:=d
 .simp only[if_true];rw[VG<|by omega,VX (by simp;omega),Xq]
 rw[VF<|by omega,VF<|by omega,XR,Xq]
def ny.l{v:Zb}(h:ny w n v o):rO w w.heap.size o v:=qy h.1 λp a=>c7 (f:=vC) (λ_=>rfl) (h.2 p a).1 qZ
