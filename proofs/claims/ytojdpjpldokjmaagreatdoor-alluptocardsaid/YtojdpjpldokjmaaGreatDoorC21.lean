import Derived.Test.YtojdpjpldokjmaaGreatDoorC14
set_option maxHeartbeats 0
set_option maxRecDepth 100000
set_option linter.all false
namespace Go.Proofs.YtojdpjpldokjmaaGreatDoor
open Go.Deep Go.RowKit Tryz
open Go renaming World->Za,Value->Zb,Calls->Zc,TypeId->Zf,Ending->Zg,maxLen->Zj
open RowKit renaming Hid->Ze
variable{i j k n:Nat}{D:YV}{W w:World}{M a:Int}{L b:Bool}{A u z:Value}{R:aA}
def G1(v:dU){s:Y9}(i:RT w k s D n false)(a:(af D).k=46\/(af D).k=47\/(af D).k=45):
 Zc prog 308 #[qP k] w (dZ w k s n<|v.single D):=by
 have o:=i.lt;have e:=Z<|lh 4 rfl 4 false (i.alloc<|.cells #[.string {data:=#[40]},.string {data:=#[84,82,85,69]},.string {data:=#[70,65,76,83,69]},.string {data:=#[78,85,76,76]}] 9) (tf w) (by omega) (by omega);have b:Ze<|eQ D false iP=D.tail:=by obtain a|a|a:=a<;>simp[Ze,eQ,iP,dh,a]
 obtain a|a|a:=a
 .have l:Ze<|gL D false iP 0=1:=by simp[Ze,gL,iP,dh,a]
  have j:Ze<|v.single D=some (fR 3 1 [],D.tail):=by simp[Ze,dU.single,dw,a]
  go_in;go_wp2_with fail;apply qR e;rintro p⟨d,h⟩;rw[l];rw[b]at d;have c:=Z d;have g:=Z<|((aH.refl k w).alloc _).trans h;go_wp2;go_ret;exact dZ.some_ j (g.alloc _) (bz.lit c.lt 3 1 []<|aM _ _)<|c.alloc _
 .have l:Ze<|gL D false iP 0=2:=by simp[Ze,gL,iP,dh,a]
  have j:Ze<|v.single D=some (fR 3 0 [],D.tail):=by simp[Ze,dU.single,dw,a]
  go_in;go_wp2_with fail;apply qR e;rintro p⟨d,h⟩;rw[l];rw[b]at d;have c:=Z d;have g:=Z<|((aH.refl k w).alloc _).trans h;go_wp2;go_ret;exact dZ.some_ j (g.alloc _) (bz.lit c.lt 3 0 []<|aM _ _)<|c.alloc _
 .have j:Ze<|gL D false iP 0=3:=by simp[Ze,gL,iP,dh,a]
  have h:Ze<|v.single D=some (fR 0 0 [],D.tail):=by simp[Ze,dU.single,dw,a]
  go_in;go_wp2_with fail;apply qR e;rintro l⟨d,g⟩;rw[j];rw[b]at d;have c:=Z d;go_wp2;go_ret;exact dZ.some_ h ((Z<|((aH.refl k w).alloc _).trans g).alloc _) (bz.lit c.lt 0 0 []<|aM _ _)<|c.alloc _
def zn(I:n<=21)(v:dU){s:Y9}(b:Bool)(a:RT w k s D n b)(u:b=true\/((af D).k≠7/\(af D).k≠46/\(af D).k≠47/\(af D).k≠45)):
 Zc prog 308 #[qP k] w (dZ w k s n<|MO b<|v.single D):=by
 have ac:=a.lt;have HF:=Z<|lh 4 rfl 4 b (a.alloc<|.cells #[.string {data:=#[40]},.string {data:=#[84,82,85,69]},.string {data:=#[70,65,76,83,69]},.string {data:=#[78,85,76,76]}] 9) (tf w) (by omega) (by omega);have hf:Ze<|gL D b iP 0=-1/\eQ D b iP=D:=by
  obtain rfl|u:=u
  .simp[Ze,gL,eQ,iP,dh]
  simp[Ze,gL,eQ,iP,dh,u]
 have HK:=Z u;clear a u;go_in;go_wp2_with fail;apply qR HF;rintro Y⟨E,P⟩;rw[hf.1];rw[hf.2]at E;obtain⟨p,hp,hs,T,(G:Ze _)⟩:=E;have F:k<Y.heap.size:=lB T;obtain⟨g0,g1,g2,g3,gf⟩:=T.c;have L:=Z T;go_upto_region 16 with fail
 go_cut [5,6] (λs5 s6 wx=>∃K q:Nat,s5=qP K/\s6=qI q/\p<=q/\q<=s.size/\Ze (aq s q=(aO<|aq s p).2)/\tE Y wx K (aO<|aq s p).1)
 case first=>
  go_region_with (go_at_call 77;apply(xi s hp hs).mono;rintro e Y⟨q,rfl,c,d,h,a⟩;have g:Ze<|aq s q=(aO<|aq s p).2:=h;clear h;obtain⟨c1,h⟩:=dN a;have i:=a.size;rw[fr])
  all_goals
   go_wp2;go_meet
   first|exact⟨_,q,rfl,rfl,c,d,g,yl a⟩|exact⟨_,q,rfl,rfl,c,d,g,vA _ a⟩
 case rest=>
  obtain⟨K,q,rfl,rfl,ab,C,HQ,ad,l,t⟩:=hcut;have B:RS wc k s p n b:=bB t F L;obtain⟨r0,r1,r2,r3,rf⟩:=B.c;have i:=Z B;have J:=bC l 0;have W:=bC l 1;have X:=bC l 2;have aa:¬K=k:=by omega
  have g:=Z<|(Z<|((aH.refl k w).alloc _).trans P).below t;have x:=Z<|ll<|aq s p;rw[G]at x;rw[<-x]at J W X;simp at J W X;by_cases H:(af D).k=2
  .have d:Ze<|cA (af D).k=110/\gj (af D)=(af D).n:=by simp[Ze,cA,gj,H]
   rw[d.1]at J;rw[d.2]at X;have h:Ze<|v.single D=some (fR 1 (af D).n [],D.tail):=by simp[Ze,dU.single,dw,H]
   have c:Ze<|de (aq s q)=D.tail:=by rw[HQ,qX (by rw[<-x];omega) (by rw[<-x];omega),G];rfl
   generalize (af D).n=N at*;go_wp2;go_ret;have a:RT (wc.setCell ⟨k,1,none⟩<|qI q) k s D.tail n b:=⟨q,C,hs,bS i 1 _,c⟩;cases b
   .exact dZ.some_ (by rw[h];rfl) ((g.set _ _).alloc _) (bz.lit (lB i) 1 N []<|iL _ _ (size_set _ _ _).symm)<|a.alloc _
   exact dZ.none_ rfl ((g.set _ _).alloc _) qZ I<|a.alloc _
  by_cases O:(af D).k=3
  .have d:Ze<|cA (af D).k=116/\bG (af D)=⟨(af D).s.toArray⟩:=by simp[Ze,cA,bG,gT,O]
   rw[d.1]at J;rw[d.2]at W;have h:Ze<|v.single D=some (fR 2 0 (af D).s,D.tail):=by simp[Ze,dU.single,dw,O]
   have c:Ze<|de (aq s q)=D.tail:=by rw[HQ,qX (by rw[<-x];omega) (by rw[<-x];omega),G];rfl
   generalize (af D).s=N at*;go_wp2;go_ret;have a:RT (wc.setCell ⟨k,1,none⟩<|qI q) k s D.tail n b:=⟨q,C,hs,bS i 1 _,c⟩;cases b
   .exact dZ.some_ (by rw[h];rfl) ((g.set _ _).alloc _) (bz.lit (lB i) 2 0 N<|iL _ _ (size_set _ _ _).symm)<|a.alloc _
   exact dZ.none_ rfl ((g.set _ _).alloc _) qZ I<|a.alloc _
  have e1:(cA (af D).k==110)=false:=by have h:=Ot (af D).k;rw[XQ.2 H]at h;rw[XQ];exact bne_iff_ne.1 h
  have e2:(cA (af D).k==116)=false:=by
   have:cA (af D).k≠116:=by unfold cA;repeat' split;all_goals omega
   simpa using this
  go_wp2_with fail;apply qR<|uB b<|Z (show RT wc k s D n b from⟨p,hp,hs,i,G⟩);rintro w3⟨(o:Ze _),Q⟩;have y:=Z<|g.trans Q;by_cases r:b=false/\(af D).k=1
  .obtain⟨rfl,r⟩:=r;have hi:dh D 1 false=true:=by simp[dh,r]
   have a:ff D 1 false=D.tail:=by rw[ff,hi];rfl
   rw[hi,a]at o;have N:Ze<|bG (af D)=⟨(af D).s.toArray⟩:=by simp[Ze,bG,gT,r]
   rw[N];have M:Ze<|v.single D=if (af D.tail).k=10 then (if (af D.tail.tail).k=1 then some (eB (af D).s (af D.tail.tail).s,D.tail.tail.tail)else none)else some (eB [] (af D).s,D.tail):=by simp[Ze,dU.single,dw,r]
   generalize (af D).s=N1 at*;go_wp2_with fail;apply qR<|jd 10 (by decide) (by decide) false _ rfl o;rintro w4⟨U,R⟩;have z:=Z<|y.trans R;have c:=Z U;by_cases h:(af D.tail).k=10
   .have hi:dh D.tail 10 false=true:=by simp[dh,h]
    have a:ff D.tail 10 false=D.tail.tail:=by rw[ff,hi];rfl
    rw[a]at c;rw[hi];go_wp2_with fail;apply qR<|uB false c;rintro w5⟨V,S⟩;have A:=Z<|z.trans S;have d:=Z V;go_wp2;go_ret;by_cases j:(af D.tail.tail).k=1
    .have hi:dh D.tail.tail 1 false=true:=by simp[dh,j]
     have a:ff D.tail.tail 1 false=D.tail.tail.tail:=by rw[ff,hi];rfl
     rw[hi,a]at d;have N:bG (af D.tail.tail)=⟨(af D.tail.tail).s.toArray⟩:=by simp[bG,gT,j]
     exact dZ.some_ (by rw[M,VG h,VG j];rfl) (A.alloc _) (bz.name d.lt N1 _ (by rw[N];exact aM _ _))<|d.alloc _
    have hi:dh D.tail.tail 1 false=false:=by simp[dh,j]
    rw[hi]at d;exact dZ.none_ (by rw[M,VG h,VF j];rfl) (A.alloc _) qZ I<|d.alloc _
   have hi:dh D.tail 10 false=false:=by simp[dh,h]
   have a:ff D.tail 10 false=D.tail:=by rw[ff,hi];rfl
   rw[a]at c;rw[hi];go_wp2;go_ret;exact dZ.some_ (by rw[M,VF h];rfl) (z.alloc _) (bz.name c.lt [] N1<|aM _ _)<|c.alloc _
  have hi:dh D 1 b=false:=by
   cases b
   .simp at r;simp[dh,r]
   rfl
  have d:ff D 1 b=D:=by rw[ff,hi];rfl
  rw[hi,d]at o;have h:Ze<|MO b (v.single D)=none:=by
   obtain rfl|u:=HK.o
   .rfl
   cases b
   .simp at r;simp[Ze,MO,dU.single,dw,u,H,O,r]
   rfl
  go_wp2_with fail;apply qR<|jd 10 (by decide) (by decide) true _ rfl o;rintro j⟨a,c⟩;rw[iz];rw[ju]at a;go_wp2;go_ret;exact dZ.none_ h ((y.trans c).alloc _) qZ I<|a.alloc _
def CR(f:FuncId)(d:Nat)(p:bg):Prop:=∀rb s ts w,RT w rb s ts d false->Zc prog f #[qP rb] w (dZ w rb s d<|p ts)
def JV(f:FuncId):Prop:=∀rb s ts d w,d<=21->RT w rb s ts d true->Zc prog f #[qP rb] w (dZ w rb s d none)
def CV(lev:Int)(d:Nat)(p:bg):Prop:=∀rb s ts w,RT w rb s ts d false->Zc prog 185 #[qP rb,qI lev] w (dZ w rb s d<|p ts)
def Af(lev:Int):Prop:=∀rb s ts d w,d<=21->RT w rb s ts d true->Zc prog 185 #[qP rb,qI lev] w (dZ w rb s d none)
def GZ(e:n<=20)(v:dU)(H:n<20->CV 0 (n+1) v.val)(d:n=20->∀a,v.val a=none):CR 308 n v.single:=by
 intro rb s a w b;by_cases c:(af a).k=7
 .exact G0 v e H d b c
 by_cases g:(af a).k=46\/(af a).k=47\/(af a).k=45
 .exact G1 v b g
 exact zn (by omega) v false b<|.inr ⟨c,by omega,by omega,by omega⟩
def Jx:JV 308:=by intro rb s b d w hd a;exact zn hd (iw 0) true a<|.inl rfl
def GY(P:n<=20)(v:dU)(H:n<20->CR 272 (n+1) v.a)(G:n=20->∀b,v.a b=none)(I:CR 308 n v.single):CR 272 n v.signed:=by
 intro rb s b w M;have j:=Z<|jd 16 (by decide) (by decide) false {data:=#[45]} rfl M;have J:=Z H;have l:=Z G;have o:=Z I;by_cases c:(af b).k=16
 .have hi:dh b 16 false=true:=by simp[dh,c]
  have F:ff b 16 false=b.tail:=by rw[ff,hi];rfl
  rw[hi,F]at j;have p:=Z c;go_in;go_wp2_with fail;apply qR j;rintro S⟨E,B⟩;have t:=Z E;have q:=Z B;go_wp2_with fail;apply qR<|DZ (by omega) false t;rintro O⟨d,C⟩;have h:=Z<|q.trans C;by_cases z:n<20
  .have A:EW n false=false:=by simp[EW];omega
   rw[A]at d ⊢;have u:=Z d;go_wp2_with apply(J z rb s b.tail O u).mono;rintro e T⟨D,a,rfl,k⟩;have i:=Z<|h.trans D;cases hv:v.a b.tail with
   |none=>
    rw[hv]at k;obtain⟨N,x,K,L,g⟩:=k;obtain⟨Q,R,rf⟩:=g.c;have r:=Z<|g.deep (x-1) ((x:Int)-1) (by omega);have y:Ze<|v.signed b=none:=by rw[dU.signed,gN,p,VG rfl,hv];rfl
    go_wp2;go_ret;exact dZ.none_ y ((i.set _ _).alloc _) (by omega) (by omega)<|r.alloc _
   |some y=>
    obtain⟨x,r⟩:=y;rw[hv]at k;obtain⟨(L:Ze _),g⟩:=k;obtain⟨N,Q,rf⟩:=g.c;have K:Ze<|v.signed b=some (ir 2 x,r):=by rw[dU.signed,gN,p,VG rfl,hv];rfl
    go_wp2;go_ret;exact dZ.some_ K ((i.set _ _).alloc _) (bz.one g.lt 2 x _ (iL _ _ (size_set _ _ _).symm)<|L.d<|((aH.refl _ _).set _ _).alloc _)<|(Z<|g.deep n (n:Int) rfl).alloc _
  have g:EW n false=true:=by simp[EW];omega
  rw[g]at d ⊢;have i:Ze<|v.signed b=none:=by rw[dU.signed,gN,p,VG rfl,l<|by omega];rfl
  have a:=Z d;go_wp2;go_ret;exact dZ.none_ i h (by omega) (by omega) a
 have hi:dh b 16 false=false:=by simp[dh,c]
 have i:ff b 16 false=b:=by rw[ff,hi];rfl
 rw[hi,i]at j;have k:Ze<|v.signed b=v.single b:=by rw[dU.signed,gN,VF c];rfl
 go_in;go_wp2_with fail;apply qR j;rintro q⟨h,d⟩;go_wp2_with apply(o rb s b q h).mono;rintro e r⟨g,a,rfl,p⟩;go_wp2;go_ret;exact⟨d.trans g,a,rfl,by rw[k];exact p⟩
def Jw:JV 272:=by intro rb s k d w hd i;have h:=Z<|jd 16 (by decide) (by decide) true {data:=#[45]} rfl i;rw[iz,ju]at h;go_in;go_wp2_with fail;apply qR h;rintro l⟨g,b⟩;go_wp2_with apply(Jx rb s k d l hd g).mono;rintro e n⟨c,a,rfl,j⟩;go_wp2;go_ret;exact⟨b.trans c,a,rfl,j⟩
def CP(lev:Int)(d:Nat)(p:bg):Prop:=∀rb s ts w,RT w rb s ts d false->Zc prog 238 #[qP rb,qI lev] w (dZ w rb s d<|p ts)
def Tk(lev:Int):Prop:=∀rb s ts d w,d<=21->RT w rb s ts d true->Zc prog 238 #[qP rb,qI lev] w (dZ w rb s d none)
def xx(b:Int)(g:(b=0/\M=1)\/(b=3/\M=4)){s:Y9}{d:Option (aA×YV)}(H:Ze<|Zc prog 185 #[qP n,qI M] w<|dZ w n s k d):
 Zc prog 238 #[qP n,qI b] w (dZ w n s k d):=by
 obtain⟨rfl,rfl⟩|⟨rfl,rfl⟩:=g;all_goals
  go_in;go_wp2_with refine H.mono ?_;rintro e i⟨c,a,rfl,h⟩;go_wp2;go_ret;exact⟨c,a,rfl,h⟩
def Kt{s:Y9}{c:Option (aA×YV)}(H:Ze<|Zc prog 271 #[qP n] w<|dZ w n s k c):
 Zc prog 238 #[qP n,qI 1] w (dZ w n s k c):=by
 go_in;go_wp2_with refine H.mono ?_;rintro e g⟨b,a,rfl,d⟩;go_wp2;go_ret;exact⟨b,a,rfl,d⟩
def zj{s:Y9}{c:Option (aA×YV)}(H:Ze<|Zc prog 272 #[qP n] w<|dZ w n s k c):
 Zc prog 238 #[qP n,qI 4] w (dZ w n s k c):=by
 go_in;go_wp2_with refine H.mono ?_;rintro e g⟨b,a,rfl,d⟩;go_wp2;go_ret;exact⟨b,a,rfl,d⟩
def jX.alloc{a:Y4}(h:jX w n a)(o:Obj):jX (w.alloc o) n a:=
 ⟨by simp;have:=h.1;omega,λi hi=>by rw[WK (hn:=h.1)];exact h.2.1 i hi,h.2.2⟩
def jX.d{c:Y4}(h:jX w k c)(b:aH n w W)(a:k≠n):jX W k c:=
 ⟨VT h.1 b.size,λi hi=>by rw[b.cell h.1 a];exact h.2.1 i hi,h.2.2⟩
def QW(w wr:Za)(rb:Nat)(s:Y9)(d:Nat)(part:bg)(op:Nat->Option Nat)(sp:Option<|aA×YV)(g:Nat)(a:Y8):Prop:=
 aH rb w wr/\((∃x ts,ts.length<g/\bz wr rb x (.pointer a)/\RT wr rb s ts d false/\ew part op (ts.length+1) x ts=sp)\/(∃ts' d',d<=d'/\d'<=21/\RT wr rb s ts' d' true/\sp=none))
def U7(lev:Int)(ks:Y4)(lb:Nat->Nat)(o:Nat)(op:Nat->Option Nat):Prop:=lev=0/\ks=[42]/\lb=(λx=>x)/\o=18/\op=kJ\/lev=1/\ks=[41]/\lb=(λx=>x+1)/\o=17/\op=i_\/lev=3/\ks=[15,16]/\lb=(λx=>x+1+1)/\o=6/\op=iU\/lev=4/\ks=[17,18,19]/\lb=(λx=>x+1+1+1)/\o=8/\op=gz
def U7.fst{c:Y4}{e:Nat->Nat}{d:Nat->Option Nat}(h:U7 a c e n d)(b:YV):d 0=none/\(gL b false c 0=-1/\eQ b false c=b/\d (af b).k=none\/∃i,i<c.length/\gL b false c 0=(i:Nat)/\eQ b false c=b.tail/\d (af b).k=some (n+i)):=by
 obtain⟨_,rfl,_,rfl,rfl⟩|⟨_,rfl,_,rfl,rfl⟩|⟨_,rfl,_,rfl,rfl⟩|⟨_,rfl,_,rfl,rfl⟩:=h;all_goals
  refine⟨rfl,?_⟩;obtain h|h|h|h|h|h|h|h:(af b).k=42\/(af b).k=41\/(af b).k=15\/(af b).k=16\/(af b).k=17\/(af b).k=18\/(af b).k=19\/(af b).k≠42/\(af b).k≠41/\(af b).k≠15/\(af b).k≠16/\(af b).k≠17/\(af b).k≠18/\(af b).k≠19:=by omega
  all_goals
   simp only[gL,eQ,dh,kJ,i_,iU,gz,h]
   first
    |(simp[h];done)
    |exact .inr ⟨0,by decide,rfl,rfl,rfl⟩
    |exact .inr ⟨1,by decide,rfl,rfl,rfl⟩
    |exact .inr ⟨2,by decide,rfl,rfl,rfl⟩
def q_{V:Y4}{X:Nat->Nat}{E:Nat->Option Nat}(O:U7 M V X n E)(hd:k<=20)(b:bg)(a:cI b)(H:CP M k b):CV M k<|du b E:=by
 intro rb s G w c;have ab:=c.lt;have T:=Z H;have HS:=Z a;have Y:=Z c;have g:Ze (∀W,jX W w.heap.size [42]->jX W (w.heap.size+1) [41]->jX W (w.heap.size+1+1) [15,16]->jX W (w.heap.size+1+1+1) [17,18,19]->jX W (X w.heap.size) V):=by
  intro W r u y C;obtain⟨_,rfl,rfl,_⟩|⟨_,rfl,rfl,_⟩|⟨_,rfl,rfl,_⟩|⟨_,rfl,rfl,_⟩:=O
  .exact r
  .exact u
  .exact y
  exact C
 have A:=Z O.fst;obtain⟨rfl,rfl,rfl,rfl,d⟩|⟨rfl,rfl,rfl,rfl,d⟩|⟨rfl,rfl,rfl,rfl,d⟩|⟨rfl,rfl,rfl,rfl,d⟩:=O;all_goals
  clear H a c d;go_in;go_wp2_with refine(T rb s G _<|by exact(((((Y.alloc _).alloc _).alloc _).alloc _).alloc _)).mono ?_;rintro e H⟨c,a,rfl,p⟩;have q:=(((((m8 _ [42] 9 rfl<|by decide).alloc _).alloc _).alloc _).alloc _).d c (by simp;omega);have h:=((((m8 _ [41] 9 rfl<|by decide).alloc _).alloc _).alloc _).d c (by simp;omega);have i:=(((m8 _ [15,16] 9 rfl<|by decide).alloc _).alloc _).d c (by simp;omega);have j:=((m8 _ [17,18,19] 9 rfl<|by decide).alloc _).d c (by simp;omega);simp only[WV]at h i j;have o:=g.o H q h i j;have U:=Z o;have t:=Z<|(((((aH.refl rb w).alloc _).alloc _).alloc _).alloc _).alloc _ |>.trans c;have l:=Z p;clear o c p q h i j g;have Q:∃F,F=du b E G/\Ze (QW H H rb s k b E F ((b G).elim 0 (λz=>z.2.length)+1) a):=by
   refine⟨_,rfl,aH.refl _ _,?_⟩;have h:=l.o;cases hv:b G with
   |none=>
    rw[hv]at h;obtain⟨i,j,o,p,q⟩:=h;exact .inr ⟨i,j,o,p,q,by rw[du,hv]⟩
   |some y=>
    obtain⟨x,r⟩:=y;rw[hv]at h;exact .inl ⟨x,r,by simp,h.1,h.2,by rw[du,hv]⟩
  obtain⟨F,g,c⟩:=Q;have B:=Z g;clear g;generalize ((b G).elim 0 (λz=>z.2.length)+1)=g0 at*;go_wp2
  go_loopg [6] g0 (λg x wr=>∃a,x=.pointer a/\Ze (QW H wr rb s k b E F g a))
  exact⟨a,rfl,c⟩
  case round=>
   obtain⟨a,rfl,j⟩:=hrel;obtain⟨i,R⟩:=j.o;have h:=Z i;clear i j c l;obtain⟨x,tr,hg,S,l,q⟩|⟨tr,d',L,N,l,o⟩:=R
   .have K:=Z S;have p:=Z q;obtain⟨r2,r3,rf⟩:=l.c;have j:=U.d h (by omega);have r:=Z λcp=>lh _ rfl cp false l j (by omega) (by decide);have P:=VT U.1 h.size;obtain⟨J,⟨y,C,D⟩|⟨i,hi,y,C,D⟩⟩:=A.o tr
    .have d:Ze<|F=some (x,tr):=by rw[<-p];exact tu D
     rw[y,C]at r;clear S l q j J y C D;go_wp2_with fail;apply qR<|r _;rintro I⟨u,c⟩;go_wp2;go_ret;exact dZ.some_ (by rw[<-B,d]) (t.trans<|h.trans c) (K.d c) u
    have u:=Z D;have I:=Z J;have c:=j.2.1 i hi;rw[y,C]at r;clear S l q j J y C D;obtain rfl|rfl|rfl:i=0\/i=1\/i=2:=by simp at hi;omega
    all_goals first
     |(simp at hi;done)
     | ((first
      |have j:_=some (Zb.string {data:=#[79,82]}):=c
      |have j:_=some (Zb.string {data:=#[65,78,68]}):=c
      |have j:_=some (Zb.string {data:=#[43]}):=c
      |have j:_=some (Zb.string {data:=#[45]}):=c
      |have j:_=some (Zb.string {data:=#[42]}):=c
      |have j:_=some (Zb.string {data:=#[47]}):=c
      | have j:_=some (Zb.string {data:=#[37]}):=c)
        clear c;go_wp2_with fail;apply qR<|r _;rintro w2⟨y,c⟩;have aa:=(c.cell P<|by omega).trans j;have J:=Z y;have C:=Z<|h.trans c;have q:=Z<|K.d c;clear y c K r j r2 r3 rf;go_wp2_with apply(T rb s tr.tail w2 J).mono;rintro e w3⟨c,a',rfl,r⟩;have j:=Z<|C.trans c;have K:=Z<|q.d c;have D:=Z r;clear c r q;go_wp2;have c:=D.o;cases hv:b tr.tail with
        |none=>
         rw[hv]at c;obtain⟨t3,S,h1,h2,h3⟩:=c
         go_roundg 0
         case measure=>omega
         case rel=>exact⟨_,rfl,j.alloc _,.inr ⟨t3,S,h1,h2,h3.alloc _,by rw[<-p];exact tt u hv⟩⟩
        |some y=>
         obtain⟨y,r⟩:=y;rw[hv]at c;have q:=p8 HS I u hv (x:=x)
         go_roundg (r.length+1)
         case measure=>omega
         case rel=>exact⟨_,rfl,j.alloc _,.inl ⟨_,r,by omega,bz.two c.2.lt _ x y _ _ (aM _ _) (K.d<|(aH.refl _ _).alloc _)<|c.1.d<|(aH.refl _ _).alloc _,c.2.alloc _,by rw[<-p,q.1]⟩⟩)
   have c:=Z l;obtain⟨j,p,rf⟩:=l.c;have i:=Z o;clear l o;go_wp2;go_ret;exact dZ.none_ (by rw[<-B,i]) (t.trans h) L N c
def tL(n:M=0\/M=1\/M=3\/M=4)(H:Tk M):Af M:=by
 intro rb s p d w hd a;have o:=a.lt;have l:=Z H;have g:=Z a;clear H a;obtain rfl|rfl|rfl|rfl:=n;all_goals
  go_in;go_wp2_with refine(l rb s p d _ hd<|by exact(((((g.alloc _).alloc _).alloc _).alloc _).alloc _)).mono ?_;rintro e q⟨c,a,rfl,y,r,j,k,b⟩;have h:=Z<|(((((aH.refl rb w).alloc _).alloc _).alloc _).alloc _).alloc _ |>.trans c;have i:=Z b;obtain⟨t,u,rf⟩:=b.c;clear c b g;go_wp2
  go_loopg [6] 0 (λg x wr=>x=.pointer a/\wr=q)
  exact⟨rfl,rfl⟩
  case round=>
   obtain⟨rfl,rfl⟩:=hrel;go_wp2;go_ret;exact dZ.none_ rfl h j k i
def nB:Y4:=[12,4,13,5,14,6]
def K5(h:eP (af D).k=none):gL D false nB 0=-1/\eQ D false nB=D:=by
 have a:(af D).k≠12/\(af D).k≠4/\(af D).k≠13/\(af D).k≠5/\(af D).k≠14/\(af D).k≠6:=by
  unfold eP at h;repeat' (split at h)
  all_goals first|cases h;done|(refine⟨?_,?_,?_,?_,?_,?_⟩<;>assumption)
 simp[gL,eQ,nB,dh,a]
def M3(h:eP (af D).k=some n):∃i:Nat,i<6/\gL D false nB 0=i/\eQ D false nB=D.tail/\n=11+i/\qT (bt<|nB.getD i 0)=.string (iX<|11+i):=by
 unfold eP at h;repeat' (split at h)
 all_goals first
  |(cases h;rename_i hk;exact⟨0,by omega,by simp[gL,nB,dh,hk],by simp[eQ,nB,dh,hk],rfl,rfl⟩)
  |(cases h;rename_i hk;exact⟨1,by omega,by simp[gL,nB,dh,hk],by simp[eQ,nB,dh,hk],rfl,rfl⟩)
  |(cases h;rename_i hk;exact⟨2,by omega,by simp[gL,nB,dh,hk],by simp[eQ,nB,dh,hk],rfl,rfl⟩)
  |(cases h;rename_i hk;exact⟨3,by omega,by simp[gL,nB,dh,hk],by simp[eQ,nB,dh,hk],rfl,rfl⟩)
  |(cases h;rename_i hk;exact⟨4,by omega,by simp[gL,nB,dh,hk],by simp[eQ,nB,dh,hk],rfl,rfl⟩)
  |(cases h;rename_i hk;exact⟨5,by omega,by simp[gL,nB,dh,hk],by simp[eQ,nB,dh,hk],rfl,rfl⟩)
  |cases h
def xP(w:Za):jX (w.alloc<|.cells #[.string {data:=#[61]},.string {data:=#[60,62]},.string {data:=#[60]},.string {data:=#[60,61]},.string {data:=#[62]},.string {data:=#[62,61]}] 9) w.heap.size nB:=
 m8 w nB _ rfl (by decide)
def z7(b:YV)(a:Y4):gL b true a 0=-1/\eQ b true a=b:=by
 have c:∀(a:Y4) (i:Int),gL b true a i=-1:=by
  intro a;induction a with
  |nil=>intro i;rfl
  |cons k a ih=>intro i;rw[gL,iz];exact ih<|i+1
 have d:∀(a:Y4),eQ b true a=b:=by
  intro a;induction a with
  |nil=>rfl
  |cons k a ih=>rw[eQ,iz];exact ih
 exact⟨c a 0,d a⟩
def Sv(M:n<=20)(v:dU)(H:n<20->CR 271 (n+1) v.no)(E:n=20->∀b,v.no b=none)
 {k:Nat} {s:Y9} {b:YV} {w:Za} (J:RT w k s b n false) (i:(af b).k=43):Zc prog 271 #[.pointer<|some ⟨k,0,none⟩] w<|dZ w k s n<|v.c b:=by
 have D:=Z<|jd 43 (by decide) (by decide) false {data:=#[78,79,84]} rfl J;have F:=Z H;have l:=Z E;have hi:dh b 43 false=true:=by simp[dh,i]
 have C:ff b 43 false=b.tail:=by rw[ff,hi];rfl
 rw[hi,C]at D;have o:=Z i;go_in;go_wp2_with fail;refine D.mono ?_;rintro e P⟨rfl,(q:Ze _),(p:Ze _)⟩;go_wp2_with fail;apply(DZ (by omega) false q).mono;rintro e L⟨rfl,c,A⟩;have g:=Z<|p.trans A;by_cases u:n<20
 .have z:EW n false=false:=by simp[EW];omega
  rw[z]at c ⊢;have t:=Z c;go_wp2_with fail;apply(F u k s b.tail L t).mono;rintro e Q⟨B,a,rfl,j⟩;have h:=Z<|g.trans B;cases hv:v.no b.tail with
  |none=>
   rw[hv]at j;obtain⟨K,x,G,I,d⟩:=j;obtain⟨N,O,rf⟩:=d.c;have r:=Z<|d.deep (x-1) ((x:Int)-1) (by omega);have y:Ze<|v.c b=none:=by rw[dU.c,mD,o,VG rfl,hv];rfl
   go_wp2;go_ret;exact dZ.none_ y ((h.set _ _).alloc _) (by omega) (by omega)<|r.alloc _
  |some y=>
   obtain⟨x,r⟩:=y;rw[hv]at j;obtain⟨(I:Ze _),d⟩:=j;obtain⟨K,N,rf⟩:=d.c;have G:Ze<|v.c b=some (ir 3 x,r):=by rw[dU.c,mD,o,VG rfl,hv];rfl
   go_wp2;go_ret;exact dZ.some_ G ((h.set _ _).alloc _) (bz.one d.lt 3 x _ (iL _ _ (size_set _ _ _).symm)<|I.d<|((aH.refl _ _).set _ _).alloc _)<|(Z<|d.deep n (n:Int) rfl).alloc _
 .have d:EW n false=true:=by simp[EW];omega
  rw[d]at c ⊢;have h:Ze<|v.c b=none:=by rw[dU.c,mD,o,VG rfl,l<|by omega];rfl
  have a:=Z c;go_wp2;go_ret;exact dZ.none_ h g (by omega) (by omega) a
def P9(hd:n<=20)(v:dU)(Y:CV 3 n v.sum)(K:Af 3)
 {I:Nat} {s:Y9} {g:YV} {w:Za} (hR:RT w I s g n false) (c:(af g).k≠43):Zc prog 271 #[.pointer<|some ⟨I,0,none⟩] w<|dZ w I s n<|v.c g:=by
 have U:=Z<|jd 43 (by decide) (by decide) false {data:=#[78,79,84]} rfl hR;have V:=Z Y;have aa:=Z K;have hi:dh g 43 false=false:=by simp[dh,c]
 have b:ff g 43 false=g:=by rw[ff,hi];rfl
 rw[hi,b]at U;have P:Ze<|v.c g=v.comp g:=by rw[dU.c,mD,VF c];rfl
 go_in;go_wp2_with fail;refine U.mono ?_;rintro e w1⟨rfl,(O:Ze _),(M:Ze _)⟩;go_wp2_with fail;apply(V I s g w1 O).mono;rintro e t⟨S,a,rfl,J⟩;have p:=Z<|M.trans S;cases hv:v.sum g with
 |none=>
  rw[hv]at J;obtain⟨A,B,o,q,j⟩:=J;have z:=j.lt;have i:=z7 A nB;have d:=Z<|lh 6 rfl 6 true (j.alloc<|.cells #[.string {data:=#[61]},.string {data:=#[60,62]},.string {data:=#[60]},.string {data:=#[60,61]},.string {data:=#[62]},.string {data:=#[62,61]}] 9) (xP t) (by omega) (by omega);rw[i.1,i.2]at d;have l:Ze<|v.c g=none:=by rw[P];rw[dU.comp,fD,hv];rfl
  go_wp2_with fail;refine d.mono ?_;rintro e C⟨rfl,x,r⟩;have k:=Z<|(p.alloc _).trans r;have h:=Z<|jd 44 (by decide) (by decide) true {data:=#[73,83]} rfl x;rw[iz,ju]at h;go_wp2_with fail;refine h.mono ?_;rintro e D⟨rfl,y,u⟩;go_wp2;go_ret;exact dZ.none_ l (k.trans u) o q y
 |some y=>
  obtain⟨x,r⟩:=y;rw[hv]at J;obtain⟨(W:Ze _),H⟩:=J;have X:=H.lt;have j:=Z<|lh 6 rfl 6 false (H.alloc<|.cells #[.string {data:=#[61]},.string {data:=#[60,62]},.string {data:=#[60]},.string {data:=#[60,61]},.string {data:=#[62]},.string {data:=#[62,61]}] 9) (xP t) (by omega) (by omega);cases ho:eP (af r).k with
  |none=>
   have C:=K5 ho;rw[C.1,C.2]at j;have h:Ze<|v.c g=if (af r).k=44 then jJ x r.tail else some (x,r):=by rw[P];rw[dU.comp,fD,hv];simp only;rw[ho];rfl
   go_wp2_with fail;refine j.mono ?_;rintro e w3⟨rfl,T,D⟩;have N:=Z<|(p.alloc _).trans D;have Q:=Z<|W.d<|((aH.refl _ _).alloc _).trans D;go_wp2_with fail;apply(Z<|jd 44 (by decide) (by decide) false {data:=#[73,83]} rfl T).mono;rintro e w4⟨rfl,l,E⟩;have q:=Z<|N.trans E;have A:=Z<|Q.d E;by_cases d:(af r).k=44
   .have hi:dh r 44 false=true:=by simp[dh,d]
    have b:ff r 44 false=r.tail:=by rw[ff,hi];rfl
    rw[b]at l;rw[hi];go_wp2_with fail;apply(Z<|jd 43 (by decide) (by decide) false {data:=#[78,79,84]} rfl l).mono;rintro e w5⟨rfl,o,F⟩;have u:=Z<|q.trans F;have B:=Z<|A.d F;by_cases c:(af r.tail).k=43
    .have hi:dh r.tail 43 false=true:=by simp[dh,c]
     have b:ff r.tail 43 false=r.tail.tail:=by rw[ff,hi];rfl
     rw[b]at o;rw[hi];have L:=Z<|mU 45 (by decide) (by decide) false {data:=#[78,85,76,76]} rfl o;go_wp2_with fail;refine L.mono ?_;rintro e w6⟨rfl,i,G⟩;have z:=Z<|u.trans G;have R:=Z<|B.d G;go_wp2;go_ret;by_cases k:(af r.tail.tail).k=45
     .have hi:dh r.tail.tail 45 false=true:=by simp[dh,k]
      have b:ff r.tail.tail 45 false=r.tail.tail.tail:=by rw[ff,hi];rfl
      rw[hi,b]at i;exact dZ.some_ (by rw[h,VG d];rw[jJ,VG c,VG k]) (z.alloc _) (bz.one i.lt 5 x _ (aM _ _)<|R.d<|(aH.refl _ _).alloc _)<|i.alloc _
     have hi:dh r.tail.tail 45 false=false:=by simp[dh,k]
     rw[hi]at i;exact dZ.none_ (by rw[h,VG d];rw[jJ,VG c,VF k]) (z.alloc _) qZ (by omega)<|i.alloc _
    have hi:dh r.tail 43 false=false:=by simp[dh,c]
    have b:ff r.tail 43 false=r.tail:=by rw[ff,hi];rfl
    rw[b]at o;rw[hi];go_wp2_with fail;apply(Z<|mU 45 (by decide) (by decide) false {data:=#[78,85,76,76]} rfl o).mono;rintro e L⟨rfl,i,G⟩;have z:=Z<|u.trans G;go_wp2;go_ret;by_cases k:(af r.tail).k=45
    .have hi:dh r.tail 45 false=true:=by simp[dh,k]
     have b:ff r.tail 45 false=r.tail.tail:=by rw[ff,hi];rfl
     rw[hi,b]at i;exact dZ.some_ (by rw[h,VG d];rw[jJ,VF c,VG k]) (z.alloc _) (bz.one i.lt 4 x _ (aM _ _)<|(Z<|B.d G).d<|(aH.refl _ _).alloc _)<|i.alloc _
    have hi:dh r.tail 45 false=false:=by simp[dh,k]
    rw[hi]at i;exact dZ.none_ (by rw[h,VG d];rw[jJ,VF c,VF k]) (z.alloc _) qZ (by omega)<|i.alloc _
   have hi:dh r 44 false=false:=by simp[dh,d]
   have b:ff r 44 false=r:=by rw[ff,hi];rfl
   rw[b]at l;rw[hi];go_wp2;go_ret;exact dZ.some_ (by rw[h,VF d]) q A l
  |some o=>
   obtain⟨i,k,C,D,(R:Ze _),G⟩:=M3 ho;rw[C,D]at j;have z:Ze<|v.c g=match v.sum r.tail with|none=>none|some (y,Q)=>some (kL o x y,Q):=by rw[P];rw[dU.comp,fD,hv];simp only;rw[ho];rfl
   have d:=((xP t).2.1) i k;have T:nB[i]'k=nB.getD i 0:=by rw[Wm,VE k];rfl
   rw[T,G]at d;go_wp2_with fail;refine j.mono ?_;rintro e N⟨rfl,F,h⟩;have E:N.cell? ⟨t.heap.size,i,none⟩=some (.string<|iX<|11+i):=by rw[h.cell (by simp)<|by omega];exact d
   have L:t.heap.size<N.heap.size:=by have:=h.size;simp at this;omega
   have B:=Z F;go_wp2_with fail;apply(V I s r.tail N B).mono;rintro e w4⟨l,a4,rfl,(A:Ze _)⟩;have u:=Z<|(Z<|(p.alloc _).trans h).trans l;have ab:w4.cell? ⟨t.heap.size,i,none⟩=some (.string<|iX<|11+i):=by rw[l.cell L<|by omega];exact E
   go_wp2;go_ret;have q:=A.o;cases hv4:v.sum r.tail with
   |none=>
    rw[hv4]at q;obtain⟨t5,d5,h1,h2,h3⟩:=q;exact dZ.none_ (by rw[z,hv4]) (u.alloc _) h1 h2<|h3.alloc _
   |some y=>
    obtain⟨y,Q⟩:=y;rw[hv4]at q;exact dZ.some_ (by rw[z,hv4]) (u.alloc _) (by rw[R];exact bz.two q.2.lt (11+i) x y _ _ (aM _ _) ((Z<|(Z<|W.d<|((aH.refl _ _).alloc _).trans h).d l).d<|(aH.refl _ _).alloc _)<|q.1.d<|(aH.refl _ _).alloc _)<|q.2.alloc _
def Su(i:Af 3):JV 271:=by intro rb s B d w hd z;have x:=Z<|jd 43 (by decide) (by decide) true {data:=#[78,79,84]} rfl z;have j:=Z i;rw[iz,ju]at x;go_in;go_wp2_with fail;apply qR x;rintro C⟨(l:Ze _),(k:Ze _)⟩;go_wp2_with apply(j rb s B d C hd l).mono;rintro e D⟨p,a,rfl,A,E,n,o,h⟩;have y:=h.lt;have g:=z7 A nB;have b:=Z<|lh 6 rfl 6 true (h.alloc<|.cells #[.string {data:=#[61]},.string {data:=#[60,62]},.string {data:=#[60]},.string {data:=#[60,61]},.string {data:=#[62]},.string {data:=#[62,61]}] 9) (xP D) (by omega) (by omega);rw[g.1,g.2]at b;go_wp2_with fail;apply qR b;rintro F⟨t,q⟩;have c:=Z<|jd 44 (by decide) (by decide) true {data:=#[73,83]} rfl t;rw[iz,ju]at c;go_wp2_with fail;apply qR c;rintro G⟨u,r⟩;go_wp2;go_ret;exact dZ.none_ rfl ((Z<|((Z<|k.trans p).alloc _).trans q).trans r) n o u
def UU:Af 4:=tL (by decide) λrb s b d w hd a=>zj<|Z<|Jw rb s b d w hd a
def Rj:Af 3:=tL (by decide) λrb s b d w hd a=>xx 3 (.inr ⟨rfl,rfl⟩)<|Z<|UU rb s b d w hd a
def UT:Af 1:=tL (by decide) λrb s b d w hd a=>Kt<|Z<|Su Rj rb s b d w hd a
def Ri:Af 0:=tL (by decide) λrb s b d w hd a=>xx 0 (.inl ⟨rfl,rfl⟩)<|Z<|UT rb s b d w hd a
def Bg(d:n<=20){v:dU}(b:cI v.signed/\cI v.prod/\cI v.c/\cI v.both)
 (H:n<20->CV 0 (n+1) v.val/\CR 271 (n+1) v.no/\CR 272 (n+1) v.a)
 (g:n=20->(∀a,v.val a=none)/\(∀a,v.no a=none)/\(∀a,v.a a=none)):
 CV 0 n v.value/\CR 271 n v.c/\CR 272 n v.signed:=by
 have k:=GZ d v (λh=>(H h).1) λh=>(g h).1;have i:=GY d v (λh=>(H h).2.2) (λh=>(g h).2.2) k;have o:CV 4 n v.prod:=q_ (.inr<|.inr<|.inr ⟨rfl,rfl,rfl,rfl,rfl⟩) d v.signed b.1 λrb s a w c=>zj<|Z<|i rb s a w c;have l:CV 3 n v.sum:=q_ (.inr<|.inr<|.inl ⟨rfl,rfl,rfl,rfl,rfl⟩) d v.prod b.2.1 λrb s a w c=>xx 3 (.inr ⟨rfl,rfl⟩)<|Z<|o rb s a w c;have j:CR 271 n v.c:=λrb s a w c=>by
  by_cases e:(af a).k=43
  .exact Sv d v (λh=>(H h).2.1) (λh=>(g h).2.1) c e
  exact P9 d v l Rj c e
 have p:CV 1 n v.both:=q_ (.inr<|.inl ⟨rfl,rfl,rfl,rfl,rfl⟩) d v.c b.2.2.1 λrb s a w c=>Kt<|Z<|j rb s a w c;have q:CV 0 n v.value:=q_ (.inl ⟨rfl,rfl,rfl,rfl,rfl⟩) d v.both b.2.2.2 λrb s a w c=>xx 0 (.inl ⟨rfl,rfl⟩)<|Z<|p rb s a w c;exact⟨q,j,i⟩
def levels:∀(k d:Nat),d+k=20->CV 0 d (iw k).value/\CR 271 d (iw k).c/\CR 272 d (iw k).signed
 |0,d,h=>by have hs:=pL 0;exact Bg (by omega) ⟨hs.2.2.2.2.1,hs.2.2.2.2.2.1,hs.2.2.2.2.2.2.2.2.1,hs.2.2.2.2.2.2.2.2.2.1⟩ (λh=>by omega) λ_=>⟨λ_=>rfl,λ_=>rfl,λ_=>rfl⟩
 |k+1,d,h=>by have hs:=pL<|k+1;exact Bg (by omega) ⟨hs.2.2.2.2.1,hs.2.2.2.2.2.1,hs.2.2.2.2.2.2.2.2.1,hs.2.2.2.2.2.2.2.2.2.1⟩ (λ_=>levels k (d+1)<|by omega) λh=>by omega
def BD:CV 0 0<|eo 20:=(levels 20 0 rfl).1
def JS:CR 125 0 bX:=by
 intro rb s b w l;have d:=Z<|jd 27 (by decide) (by decide) false {data:=#[87,72,69,82,69]} rfl l;by_cases c:(af b).k=27
 .have hi:dh b 27 false=true:=by simp[dh,c]
  have j:ff b 27 false=b.tail:=by rw[ff,hi];rfl
  rw[hi,j]at d;have k:Ze<|bX b=eo 20 b.tail:=by rw[bX,VG c];rfl
  go_in;go_wp2_with fail;apply qR d;rintro o⟨i,g⟩;go_wp2_with apply(BD rb s b.tail o i).mono;rintro e p⟨h,a,rfl,n⟩;go_wp2;go_ret;exact⟨g.trans h,a,rfl,by rw[k];exact n⟩
 have hi:dh b 27 false=false:=by simp[dh,c]
 have h:ff b 27 false=b:=by rw[ff,hi];rfl
 rw[hi,h]at d;have i:Ze<|bX b=some (.nil,b):=by rw[bX,VF c];rfl
 go_in;go_wp2_with fail;apply qR d;rintro j⟨g,a⟩;go_wp2;go_ret;exact dZ.some_ i a rfl g
def Ml:JV 125:=by intro rb s g d w hd e;have c:=Z<|jd 27 (by decide) (by decide) true {data:=#[87,72,69,82,69]} rfl e;rw[iz,ju]at c;go_in;go_wp2_with fail;apply qR c;rintro h⟨b,a⟩;go_wp2;go_ret;exact dZ.none_ rfl a qZ hd b
def Ho:∀(n:Nat)(l:YX),l.length<n->(de l).length<=l.length
 |0,_,h=>by omega
 |n+1,l,h=>by
  rw[gw];obtain hk|hk|hk:=nM l
  .rw[hk,VG (show jV.k=0 from rfl)];simp
  .rw[VF<|by omega,VF<|by omega];have a:=jz l (by omega);have b:=Ho n (aO l).2 (by omega);simp;omega
  have a:=jz l (by rw[hk];decide);rw[hk,VF<|by decide,VG<|by decide];simp;omega
def RT.len{s:Y9}(h:RT w n s D k b):D.length<=1048576:=by
 obtain⟨p,c,d,e,a⟩:=h;have:=Ho _ (aq s p)<|WC _;rw[a]at this;have g:(aq s p).length<=s.size:=by unfold aq;simp
 omega
def j4(it:ay)(v:Zb):Y0:=[qT it.name,qT it.aY,qI it.type,v,.bool it.eC]
def fg(w:Za)(rb:Nat):Y3->Y0->Prop
 |[],cs=>cs=[]
 |it::aN,cs=>∃(a:Y8) (rest:Y0),cs=j4 it (.pointer a)++rest/\bz w rb it.aW (.pointer a)/\fg w rb aN rest
def fg.snoc{d:ay}{a:Y8}(e:bz w n d.aW<|.pointer a):∀{aN:Y3}{c:Y0},fg w n aN c->fg w n (aN++[d]) (c++j4 d (.pointer a))
 |[],c,h=>by have:c=[]:=h;subst this;exact⟨a,[],by simp,e,rfl⟩
 |j::aN,c,⟨b,rest,hc,ht,hr⟩=>⟨b,rest++j4 d (.pointer a),by rw[hc];simp,ht,fg.snoc e hr⟩
def fg.mono(c:∀(t:aA)(v:Zb),bz w n t v->bz W n t v):∀{aN:Y3}{a:Y0},fg w n aN a->fg W n aN a
 |[],_,h=>h
 |_::_,_,⟨b,rest,hc,ht,hr⟩=>⟨b,rest,hc,c _ _ ht,fg.mono c hr⟩
def bz.grown{g:Option Nat}(j:w.grownBy W g)(b:∀k,g=some k->∃d e,w.heap[k]?=some (.cells d e (0,0))/\e≠301):∀{t:aA}{v:Zb},bz w i t v->bz W i t v
 |.nil,_,h=>h
 | .node _ _ a l r,v,⟨n,vl,vr,hv,hn,hb,hl,hr⟩=>⟨n,vl,vr,hv,hn,by
  rw [j.block n (lB hb) (λe=>by
   obtain⟨d,o,c,h⟩:=b n e.symm;rw[hb]at c;injection c with c;injection c with _ c _
   exact h c.symm),hb],bz.grown j b hl,bz.grown j b hr⟩
def e7(w:Za)(rb base:Nat)(aN:Y3)(v:Zb):Prop:=∃cs,w.ownsRow base 157 5 v aN.length cs/\fg w rb aN cs
def RT.grown{s:Y9}{a:Option Nat}(h:RT w n s D i b)(c:w.grownBy W a)(d:∀k,a=some k->n<k):RT W n s D i b:=
 h.q (c.block n h.lt (λe=>by have:=d n e.symm;omega))
def e7.d{a:Y3}{v:Zb}(b:aH n w W)(g:n<k)(h:e7 w n k a v):e7 W n k a v:=by obtain⟨c,d,e⟩:=h;exact⟨c,dM b g d,e.mono λt v=>bz.d b⟩
def Ag(w:Za)(rb:Nat)(s:Y9)(d:Nat)(spec:Option<|Y3×YV)(e:Zg)(w':Za):Prop:=
 aH rb w w'/\∃(a:Y8) (n c:Nat),e=.returned (.slice a n c)/\match spec with
  |some (aN,r)=>e7 w' rb w.heap.size aN (.slice a n c)/\RT w' rb s r d false
  |none=>∃ts' d',d<=d'/\d'<=21/\RT w' rb s ts' d' true
def mY{g:Za}{s:Y9}{aN:Y3}{v:Zb}{p C:Y0}{t:Zf}(r:n<w.heap.size)(l:aH n w W)(a:W.ownsRow w.heap.size 157 5 v aN.length p)
 (j:(W.alloc<|.cells C.toArray t).grownBy g v.ownBlock):aH n w g/\(∀o d b,RT W n s o d b->RT g n s o d b)/\(∀t v,bz W n t v->bz g n t v):=by
 have c:∀k,v.ownBlock=some k->w.heap.size<=k:=λk e=>(a.lt k e).1;refine⟨(l.alloc _).grown j c,λo d b h=>(h.alloc _).grown j (λk e=>by have:=c k e;omega),λx u h=>?_⟩;refine bz.grown j (λk l=>?_)<|h.d<|(aH.refl n W).alloc _;obtain⟨i,q⟩:=xu (a.alloc<|.cells C.toArray t) k l;exact⟨i,_,q,by decide⟩
def pJ:(prog.info? 157).map (λi=>(i.zero,i.size,i.bytes))=some (some<|.agg #[.string {data:=#[]},.string {data:=#[]},qI 0,.pointer none,.bool false],5,56):=by kernel_rfl
def QU(w wr:Za)(rb:Nat)(s:Y9)(d:Nat)(p:h_)(sp:Option<|Y3×YV)(g:Nat)(v:Zb)(aN:Y3)(cs:Y0)(ts:YV):Prop:=
 aH rb w wr/\ts.length<g/\aN.length+ts.length<=1048576/\wr.ownsRow w.heap.size 157 5 v aN.length cs/\fg wr rb aN cs/\RT wr rb s ts d false/\dW p (ts.length+1) aN ts=sp
def Hu{s:Y9}(M:RT w n s D 0 false):
 Zc prog 124 #[qP n] w (Ag w n s 0<|bR dc D):=by
 have F:=M.lt;obtain⟨i0,hi,Q,R,S⟩:=V5 pJ;have I:Ze<|QU w w n s 0 dc (bR dc D) (D.length+1) qN [] [] D:=
  ⟨aH.refl _ _,by omega,by simpa using M.len,VP _ _ _ _,rfl,M,rfl⟩
 generalize O:bR dc D=T at*;have aa:=Z O;go_in;go_wp2
 go_loopg [3] (D.length+1) (λg x wr=>∃aN L tr,Ze<|QU w wr n s 0 dc T g x aN L tr)
 exact⟨[],[],D,I⟩
 case round=>
  obtain⟨aN,L,tr,HL⟩:=hrel;obtain⟨(W:Ze _),hg,hb,(X:Ze _),(HI:Ze _),(HR:Ze _),(J:Ze _)⟩:=HL.o;have ab:=W.size;obtain⟨va,vn,vc,rfl⟩:=aF X;go_wp2_with apply(BD n s tr wr HR).mono;rintro e V⟨c,a,rfl,l⟩;have Y:wr.heap.size<=V.heap.size:=c.size;have q:=Z<|W.trans c;have b:=dM c (by omega) X;have HP:=Z l;go_wp2_with (at_builtin;refine VS _ rfl (.tmp 8) (.tmp 11) 108 rfl w.heap.size 157 i0 _ 5 56 underlying108 hi Q R S rfl (by decide) _ _ _ rfl (b.alloc _) ⟨V.heap.size,0,none⟩ 1 1 [.string {data:=#[]},.string {data:=#[]},qI 0,.pointer a,.bool false] rfl rfl ?c1 ?c2 ?c3 ?c4 ?c5 ?_)
  case c1=>exact cW V [.string {data:=#[]},.string {data:=#[]},qI 0,.pointer a,.bool false] 157
  case c2=>intro u d;simp at d;obtain rfl|rfl|rfl|rfl|rfl:=d<;>rfl
  case c3=>unfold Zj;omega
  case c4=>omega
  case c5=>simp;have:=q.size;omega
  intro v' w2 (A:Ze _) hg2 hnil;obtain⟨ua,un,uc,rfl⟩:=aF A;obtain⟨(z:Ze _),(i:Ze _),(h:Ze _)⟩:=mY (s:=s) (C:=[.string {data:=#[]},.string {data:=#[]},qI 0,.pointer a,.bool false]) F q b hg2;have l:=HP.o;cases hv:eo 20 tr with
  |none=>
   rw[hv]at l;obtain⟨y,p,r,t,u⟩:=l;have d:=Z<|xj true<|i _ _ _ u;rw[iz,ju]at d;have o:Ze<|T=none:=by rw[<-J];exact ko<|by rw[dc,hv]
   go_wp2_with fail;apply qR d;rintro B⟨k,j⟩;go_wp2;go_ret;exact⟨z.trans j,ua,un,uc,rfl,by rw[o];exact⟨y,p,r,t,k⟩⟩
  |some y=>
   obtain⟨x,r⟩:=y;rw[hv]at l;have N:dc tr=some (⟨[],[],0,x,false⟩,r):=by rw[dc,hv]
   have p:=Z N;have H:Ze<|fg w2 n (aN++[⟨[],[],0,x,false⟩])<|L++j4 ⟨[],[],0,x,false⟩ (.pointer a):=((Z<|HI.mono λt v=>bz.d c).o.mono h).snoc (Z<|h _ _ l.1).o;go_wp2_with fail;refine qR (U<|Z<|xj false<|i _ _ _ l.2) ?_;rintro w3⟨d,k⟩;have u:=Z<|z.trans k;have B:=Z<|dM k F A;have o:=Z<|H.mono λt v=>bz.d k;by_cases G:(af r).k=9
   .have E:dh r 9 false=true:=by simp[dh,G]
    have P:ff r 9 false=r.tail:=by rw[ff,E];rfl
    rw[P]at d;rw[E];have K:=Z d;have j:=Z<|l3 o6 p G (acc:=aN);go_wp2
    go_roundg (r.tail.length+1)
    case measure=>have:=j.o.2;omega
    exact⟨aN++[⟨[],[],0,x,false⟩],_,r.tail,u.o,by omega,by have:=j.o.2;rw[VH,V_];omega,by rw[VH];exact B.o,o.o,K.o,by rw[<-J.o,j.o.1]⟩
   have j:dh r 9 false=false:=by simp[dh,G]
   have E:ff r 9 false=r:=by rw[ff,j];rfl
   rw[E]at d;rw[j];have K:Ze<|T=some (aN++[⟨[],[],0,x,false⟩],r):=by rw[<-J];exact mS p G
   go_wp2;go_ret;exact⟨u,ua,un,uc,rfl,by rw[K];exact⟨⟨_,by rw[VH];exact B,o⟩,d⟩⟩
def JQ{s:Y9}(K:k<=21)(B:RT w n s D k true):
 Zc prog 124 #[qP n] w (Ag w n s k none):=by
 obtain⟨M,hi,t,y,z⟩:=V5 pJ;have l:=Z B;go_in;go_wp2
 go_loopg [3] 0 (λg x wr=>x=qN/\wr=w)
 exact⟨rfl,rfl⟩
 case round=>
  obtain⟨rfl,rfl⟩:=hrel;go_wp2_with apply(Ri n s D k _ K l).mono;rintro e A⟨(d:Ze _),a,rfl,N,H,I,J,(o:Ze _)⟩;have b:=VP A wr.heap.size 157 5;have L:=d.size;go_wp2_with (at_builtin;refine VS _ rfl (.tmp 8) (.tmp 11) 108 rfl wr.heap.size 157 M _ 5 56 underlying108 hi t y z rfl (by decide) _ _ _ rfl (b.alloc _) ⟨A.heap.size,0,none⟩ 1 1 [.string {data:=#[]},.string {data:=#[]},qI 0,.pointer a,.bool false] rfl rfl ?c1 ?c2 ?c3 ?c4 ?c5 ?_)
  case c1=>exact cW A [.string {data:=#[]},.string {data:=#[]},qI 0,.pointer a,.bool false] 157
  case c2=>intro u G;simp at G;obtain rfl|rfl|rfl|rfl|rfl:=G<;>rfl
  case c3=>unfold Zj;omega
  case c4=>omega
  case c5=>simp;omega
  intro R S c p E;obtain⟨O,Q,P,rfl⟩:=aF c;obtain⟨(j:Ze _),i,F⟩:=mY (s:=s) (aN:=[]) (C:=[.string {data:=#[]},.string {data:=#[]},qI 0,.pointer a,.bool false]) B.lt d b p;have h:=Z<|xj true<|i _ _ _ o;rw[iz,ju]at h;go_wp2_with fail;apply qR h;rintro T⟨r,q⟩;go_wp2;go_ret;exact⟨j.trans q,O,Q,P,rfl,N,H,I,J,r⟩
def oi:Y4:=[48,49,50]
def DA(w:Za):jX (w.alloc<|.cells #[.string {data:=#[73,78,84]},.string {data:=#[84,69,88,84]},.string {data:=#[66,79,79,76]}] 9) w.heap.size oi:=
 m8 w oi _ rfl (by decide)
def Mc(h:gP (af D).k=none):gL D false oi 0=-1/\eQ D false oi=D:=by
 have a:(af D).k≠48/\(af D).k≠49/\(af D).k≠50:=by
  unfold gP at h;repeat' (split at h)
  all_goals first|cases h;done|(refine⟨?_,?_,?_⟩<;>assumption)
 simp[gL,eQ,oi,dh,a]
def Md(h:gP (af D).k=some a):∃i:Nat,i<3/\gL D false oi 0=i/\eQ D false oi=D.tail/\a=i+1:=by
 unfold gP at h;repeat' (split at h)
 all_goals first
  |(cases h;rename_i hk;exact⟨0,by omega,by simp[gL,oi,dh,hk],by simp[eQ,oi,dh,hk],rfl⟩)
  |(cases h;rename_i hk;exact⟨1,by omega,by simp[gL,oi,dh,hk],by simp[eQ,oi,dh,hk],rfl⟩)
  |(cases h;rename_i hk;exact⟨2,by omega,by simp[gL,oi,dh,hk],by simp[eQ,oi,dh,hk],rfl⟩)
  |cases h
def RT.d{s:Y9}(h:RT w n s D k b):RT (w.setCell ⟨n,3,none⟩<|.bool true) n s D k true:=by obtain⟨p,a,c,d,e⟩:=h;exact⟨p,a,c,bS d 3 _,e⟩
def Iy{s:Y9}(hd:k<=21)(b:Bool)(W:RT w n s D k b):
 Zc prog 123 #[qP n] w (Ag w n s k (if b=true then none else bR dL D)):=by
 have z:=W.lt;obtain⟨i0,hi,Q,R,S⟩:=V5 pJ;have M:=W.len;have ad:Ze (∃A,(if b=true then none else bR dL D)=A/\D.length+0<=1048576/\RT w n s D k b/\(b=false->dW dL (D.length+1) [] D=A)/\(b=true->A=none)):=by
  refine⟨_,rfl,by omega,W,?_,?_⟩
  .rintro rfl;rfl
  rintro rfl;rfl
 obtain⟨Y,(al:Ze _),_,_,(ae:Ze _),(aa:Ze _)⟩:=ad.o;have ai:=Z W;rw[al];go_in;go_wp2
 go_loopg [3] (D.length+1) (λg x wr=>∃aN U tr c,Ze<|aH n w wr/\tr.length<g/\aN.length+tr.length<=1048576/\wr.ownsRow w.heap.size 157 5 x aN.length U/\fg wr n aN U/\RT wr n s tr k c/\(c=false->dW dL (tr.length+1) aN tr=Y)/\(c=true->Y=none))
 exact⟨[],[],D,b,aH.refl _ _,by omega,by simpa using M,VP _ _ _ _,rfl,ai.o,ae.o,aa.o⟩
 case round=>
  obtain⟨aN,U,tr,c,HL⟩:=hrel;obtain⟨(HK:Ze _),hg,aI,(HO:Ze _),(HI:Ze _),(HR:Ze _),(T:Ze _),(ab:Ze _)⟩:=HL.o;have aK:=HK.size;obtain⟨va,vn,vc,rfl⟩:=aF HO;go_wp2_with fail;apply qR<|uB c HR;rintro w1⟨a,d⟩;have J:=Z a;have F:=Z d;have aB:=a.lt;by_cases e:c=false/\(af tr).k=1/\(gP (af tr.tail).k).isSome=true
  .obtain⟨rfl,h1,aA⟩:=e;obtain⟨t,ht⟩:=Option.isSome_iff_exists.1 aA;obtain⟨i,aJ,am,an,ay⟩:=Md ht;have K:dh tr 1 false=true:=by simp[dh,h1]
   have o:ff tr 1 false=tr.tail:=by rw[ff,K];rfl
   have a:=J.o;rw[K,o]at a;have e3:Ze<|bG (af tr)=⟨(af tr).s.toArray⟩:=by simp[Ze,bG,gT,h1]
   rw[e3];have L:dL tr=some (⟨(af tr).s,[],t,.nil,false⟩,tr.tail.tail):=by rw[dL,VG h1,ht]
   rw[ay]at L;have E:=Z L;have HF:=Z<|lh 3 rfl 3 false (a.alloc<|.cells #[.string {data:=#[73,78,84]},.string {data:=#[84,69,88,84]},.string {data:=#[66,79,79,76]}] 9) (DA w1) (by omega) (by omega);rw[am,an]at HF;generalize (af tr).s=N at*;go_wp2_with fail;apply qR HF;rintro w2⟨aw,ap⟩;have q:=Z<|(F.alloc _).trans ap;have G:=Z<|HK.trans q;have j:=dM q (by omega) HO;have aj:=Z aw;have aG:=G.size;go_wp2_with (at_builtin;refine VS _ rfl (.tmp 17) (.tmp 22) 108 rfl w.heap.size 157 i0 _ 5 56 underlying108 hi Q R S rfl (by decide) _ _ _ rfl (j.alloc _) ⟨w2.heap.size,0,none⟩ 1 1 [.string {data:=N.toArray},.string {data:=#[]},qI<|i+1,.pointer none,.bool false] rfl rfl ?c1 ?c2 ?c3 ?c4 ?c5 ?_)
   case c1=>exact cW w2 [.string {data:=N.toArray},.string {data:=#[]},qI<|i+1,.pointer none,.bool false] 157
   case c2=>intro u h;simp at h;obtain rfl|rfl|rfl|rfl|rfl:=h<;>rfl
   case c3=>unfold Zj;omega
   case c4=>omega
   case c5=>simp;omega
   intro v' w3 l ao aC;obtain⟨ua,un,uc,rfl⟩:=aF l;obtain⟨ar,P,O⟩:=mY (s:=s) (C:=[.string {data:=N.toArray},.string {data:=#[]},qI<|i+1,.pointer none,.bool false]) z G j ao;have ac:=Z ar;have ah:=Z l;have ag:=Z<|xj false<|P _ _ _ aj;have X:Ze<|fg w3 n (aN++[⟨N,[],(i:Int)+1,.nil,false⟩])<|U++j4 ⟨N,[],(i:Int)+1,.nil,false⟩ (.pointer none):=((Z<|HI.mono λt v=>bz.d q).mono O).snoc (show bz w3 n .nil (.pointer none)from rfl);go_wp2_with fail;apply qR ag;rintro w4⟨p,y⟩;have H:=Z<|ac.trans y;have I:=Z<|dM y z ah;have B:=Z<|X.mono λt v=>bz.d y;by_cases V:(af tr.tail.tail).k=9
   .have u:dh tr.tail.tail 9 false=true:=by simp[dh,V]
    have o:ff tr.tail.tail 9 false=tr.tail.tail.tail:=by rw[ff,u];rfl
    rw[o]at p;rw[u];have ak:=Z p;have r:=Z<|l3 ui E V (acc:=aN);go_wp2
    go_roundg (tr.tail.tail.tail.length+1)
    case measure=>have:=r.o.2;omega
    exact⟨aN++[⟨N,[],(i:Int)+1,.nil,false⟩],_,tr.tail.tail.tail,false,H.o,by omega,by have:=r.o.2;rw[VH,V_];omega,by rw[VH];exact I.o,B.o,ak.o,λ_=>by rw[<-T.o (by first|rfl|trivial),r.o.1],λh=>by cases h⟩
   have h:dh tr.tail.tail 9 false=false:=by simp[dh,V]
   have o:ff tr.tail.tail 9 false=tr.tail.tail:=by rw[ff,h];rfl
   rw[o]at p;rw[h];have r:Ze<|Y=some (aN++[⟨N,[],(i:Int)+1,.nil,false⟩],tr.tail.tail):=by rw[<-T (by first|rfl|trivial)];exact mS E V
   go_wp2;go_ret;exact⟨H,ua,un,uc,rfl,by rw[r];exact⟨⟨_,by rw[VH];exact I,B⟩,p⟩⟩
  have B:∃X q,Ze (ff tr 1 c=X/\(!dh tr 1 c)=q)/\gL X q oi 0=-1/\eQ X q oi=X/\Y=none:=by
   refine⟨_,_,⟨rfl,rfl⟩,?_⟩;by_cases r:dh tr 1 c=true
   .have L:c=false:=by cases c<;>simp[dh]at r ⊢
    subst L;have d:(af tr).k=1:=by simpa[dh]using r
    have az:ff tr 1 false=tr.tail:=by rw[ff,r];rfl
    have u:gP (af tr.tail).k=none:=by
     cases h:gP (af tr.tail).k with
     |none=>rfl
     |some t=>exact absurd ⟨rfl,d,by rw[h];rfl⟩ e
    rw[r,az];have:=Mc u;exact⟨this.1,this.2,by rw[<-T rfl];exact ko<|by rw[dL,VG d,u]⟩
   have h:dh tr 1 c=false:=by simpa using r
   rw[h];refine⟨(z7 _ _).1,(z7 _ _).2,?_⟩;cases c with
   |true=>exact ab rfl
   |false=>
    have d:(af tr).k≠1:=by simpa[dh]using h
    rw[<-T rfl];exact ko<|by rw[dL,VF d]
  obtain⟨X,q,y,O,P,(K:Ze _)⟩:=B;have a:=J.o;rw[y.1,y.2]at a;have HF:=Z<|lh 3 rfl 3 q (a.alloc<|.cells #[.string {data:=#[73,78,84]},.string {data:=#[84,69,88,84]},.string {data:=#[66,79,79,76]}] 9) (DA w1) (by omega) (by omega);rw[O,P]at HF;generalize bG (af tr)=N at*;go_wp2_with fail;apply qR HF;rintro w2⟨E,aq⟩;obtain⟨r2,r3,rf⟩:=E.c;have o:=Z<|((F.alloc _).trans aq).set 3<|.bool true;have l:=Z<|HK.trans o;have i:=dM o (by omega) HO;have H:=l.size;simp only[size_set]at H;go_wp2_with (at_builtin;refine VS _ rfl (.tmp 17) (.tmp 22) 108 rfl w.heap.size 157 i0 _ 5 56 underlying108 hi Q R S rfl (by decide) _ _ _ rfl (i.alloc _) ⟨w2.heap.size,0,none⟩ 1 1 [.string N,.string {data:=#[]},qI 0,.pointer none,.bool false] rfl rfl ?c1 ?c2 ?c3 ?c4 ?c5 ?_)
  case c1=>
   have:=cW (w2.setCell ⟨n,3,none⟩<|.bool true) [.string N,.string {data:=#[]},qI 0,.pointer none,.bool false] 157;rw[size_set]at this;exact this
  case c2=>intro u h;simp at h;obtain rfl|rfl|rfl|rfl|rfl:=h<;>rfl
  case c3=>unfold Zj;omega
  case c4=>omega
  case c5=>simp;omega
  intro v' w3 j V aD;obtain⟨ua,un,uc,rfl⟩:=aF j;obtain⟨au,G,aE⟩:=mY (s:=s) (C:=[.string N,.string {data:=#[]},qI 0,.pointer none,.bool false]) z l i V;have I:=Z au;have p:=Z<|xj true<|G _ _ _<|Z E.d;rw[iz,ju]at p;go_wp2_with fail;apply qR p;rintro w4⟨ax,av⟩;go_wp2;go_ret;exact⟨I.trans av,ua,un,uc,rfl,by rw[K];exact⟨X,k,qZ,hd,ax⟩⟩
def JN{s:Y9}(b:Bool)(d:k<=21)(c:b=false->k=0)(a:RT w n s D k b):
 Zc prog 185 #[qP n,qI 0] w (dZ w n s k<|MO b<|eo 20 D):=by
 cases b with
 |false=>have:=c rfl;subst this;exact BD n s D w a
 |true=>exact Ri n s D k w d a
def OB{s:Y9}(hd:k<=21)(b:Bool)(i:b=false->k=0)(Y:RT w n s D k b):
 Zc prog 126 #[qP n] w (Ag w n s k (if b=true then none else bR fh D)):=by
 have S:=Y.lt;obtain⟨i0,hi,az,aA,aB⟩:=V5 pJ;have ai:Ze (∃E,(if b=true then none else bR fh D)=E/\RT w n s D k b/\(b=false->dW fh (D.length+1) [] D=E)/\(b=true->E=none)):=by
  refine⟨_,rfl,Y,?_,?_⟩
  .rintro rfl;rfl
  rintro rfl;rfl
 obtain⟨B,aw,_,(aj:Ze _),(aa:Ze _)⟩:=ai.o;have F:=Z i;have am:=Z Y;rw[aw];go_in;go_wp2
 go_loopg [3] (D.length+1) (λg x wr=>∃aN V tr c,Ze<|aH n w wr/\tr.length<g/\aN.length+tr.length<=1048576/\wr.ownsRow w.heap.size 157 5 x aN.length V/\fg wr n aN V/\RT wr n s tr k c/\(c=false->dW fh (tr.length+1) aN tr=B)/\(c=true->B=none)/\(c=false->k=0))
 exact⟨[],[],D,b,aH.refl _ _,by omega,by simpa using Y.len,VP _ _ _ _,rfl,am.o,aj.o,aa.o,F.o⟩
 case round=>
  obtain⟨aN,V,tr,c,HL⟩:=hrel;obtain⟨(HK:Ze _),hg,aD,(p:Ze _),(HI:Ze _),(HR:Ze _),(U:Ze _),(ac:Ze _),i⟩:=HL.o;have d:=Z i;have aE:=HK.size;obtain⟨va,vn,vc,rfl⟩:=aF p;have ax:∃X q,X=ff (ff tr 1 c) 12 (!dh tr 1 c)/\q=(!dh (ff tr 1 c) 12 (!dh tr 1 c))/\(q=false->c=false/\(af tr).k=1/\(af tr.tail).k=12/\X=tr.tail.tail)/\(q=true->Ze (B=none)):=by
   refine⟨_,_,rfl,rfl,?_,?_⟩
   .intro h;have r:dh (ff tr 1 c) 12 (!dh tr 1 c)=true:=by simpa using h
    have A:(!dh tr 1 c)=false:=by unfold dh at r;simp at r;simpa[dh]using r.1
    have u:dh tr 1 c=true:=by simpa using A
    have G:c=false:=by cases c<;>simp[dh]at u ⊢
    subst G;have H:ff tr 1 false=tr.tail:=by rw[ff,u];rfl
    rw[H,A]at r ⊢;have J:ff tr.tail 12 false=tr.tail.tail:=by rw[ff,r];rfl
    exact⟨rfl,by simpa[dh]using u,by simpa[dh]using r,J⟩
   intro h;have u:dh (ff tr 1 c) 12 (!dh tr 1 c)=false:=by simpa using h
   cases c with
   |true=>exact ac rfl
   |false=>
    show B=none;rw[<-U rfl];refine ko ?_;unfold fh;by_cases r:(af tr).k=1
    .have A:dh tr 1 false=true:=by simp[dh,r]
     have H:ff tr 1 false=tr.tail:=by rw[ff,A];rfl
     rw[A,H]at u;have G:(af tr.tail).k≠12:=by simpa[dh]using u
     rw[VG r,VF G]
    rw[VF r]
  obtain⟨X,q,(HX:Ze _),(ab:Ze _),(HG:Ze _),(ad:Ze _)⟩:=ax;go_wp2_with fail;apply qR<|uB c HR;rintro w1⟨au,(ah:Ze _)⟩;have L:=Z<|mU 12 (by decide) (by decide) (!dh tr 1 c) {data:=#[61]} rfl au;rw[<-HX,<-ab]at L;go_wp2_with fail;apply qR L;rintro w2⟨av,ar⟩;have y:=Z<|JN q hd (λh=>d (HG h).1) av;go_wp2_with refine y.mono ?_;rintro e w3⟨o,a,rfl,z⟩;have l:=Z<|(Z<|ah.trans ar).o.trans o;have j:=dM l (by omega) p;have ae:=Z<|HI.mono λt v=>bz.d l;have K:=Z<|HK.trans l;have aC:=K.size;have HP:=Z z;clear o z y l p;generalize ap:bG (af tr)=N at*;have al:=Z ap;go_wp2_with (at_builtin;refine VS _ rfl (.tmp 13) (.tmp 17) 108 rfl w.heap.size 157 i0 _ 5 56 underlying108 hi az aA aB rfl (by decide) _ _ _ rfl (j.alloc _) ⟨w3.heap.size,0,none⟩ 1 1 [.string N,.string {data:=#[]},qI 0,.pointer a,.bool false] rfl rfl ?c1 ?c2 ?c3 ?c4 ?c5 ?_)
  case c1=>exact cW w3 [.string N,.string {data:=#[]},qI 0,.pointer a,.bool false] 157
  case c2=>intro u l;simp at l;obtain rfl|rfl|rfl|rfl|rfl:=l<;>rfl
  case c3=>unfold Zj;omega
  case c4=>omega
  case c5=>simp;omega
  intro v' w4 (M:Ze _) hg4 hnil;obtain⟨ua,un,uc,rfl⟩:=aF M;obtain⟨(I:Ze _),(p:Ze _),T⟩:=mY (s:=s) (C:=[.string N,.string {data:=#[]},qI 0,.pointer a,.bool false]) S K j hg4;have o:=Z T;have z:=HP.o;cases hv:MO q (eo 20 X)with
  |none=>
   rw[hv]at z;obtain⟨R,A,O,P,Q⟩:=z;have l:=Z<|xj true<|p _ _ _ Q;rw[iz,ju]at l;have y:Ze<|B=none:=by
    cases q with
    |true=>exact(ad rfl).o
    |false=>
     obtain⟨rfl,G,H,J⟩:=HG.o rfl;show B=none;rw[<-U rfl];refine ko ?_;unfold fh;rw[VG G,VG H,<-J];have:eo 20 X=none:=hv;rw[this]
   go_wp2_with fail;apply qR l;rintro W⟨u,r⟩;go_wp2;go_ret;exact⟨I.trans r,ua,un,uc,rfl,by rw[y];exact⟨R,A,O,P,u⟩⟩
  |some y=>
   obtain⟨x,r⟩:=y;rw[hv]at z;cases q with
   |true=>cases hv
   |false=>
    obtain⟨rfl,g1,g2,g3⟩:=HG.o rfl;have aq:fh tr=some (⟨(af tr).s,[],0,x,false⟩,r):=by unfold fh;rw[VG g1,VG g2,<-g3];have:eo 20 X=some (x,r):=hv;rw[this]
    have H:=Z aq;have hN:N=⟨(af tr).s.toArray⟩:=by rw[<-al];simp[bG,gT,g1]
    have ao:=Z<|o _ _ z.1;have ak:=Z<|xj false<|p.o _ _ _ z.2;have ag:Ze<|fg w4 n (aN++[⟨(af tr).s,[],0,x,false⟩])<|V++j4 ⟨(af tr).s,[],0,x,false⟩ (.pointer a):=(ae.o.mono o.o).snoc ao.o;have Q:=M.o;rw[hN]at Q;have O:=Z Q;go_wp2_with fail;apply qR ak;rintro w5⟨l,A⟩;have J:=Z<|I.trans A;have P:=Z<|dM A S O;have G:=Z<|ag.mono λt v=>bz.d A;by_cases W:(af r).k=9
    .have R:dh r 9 false=true:=by simp[dh,W]
     have ay:ff r 9 false=r.tail:=by rw[ff,R];rfl
     rw[ay]at l;rw[R];have an:=Z l;have u:=Z<|l3 yY H W (acc:=aN);go_wp2
     go_roundg (r.tail.length+1)
     case measure=>have:=u.o.2;omega
     exact⟨aN++[⟨(af tr).s,[],0,x,false⟩],_,r.tail,false,J.o,by omega,by have:=u.o.2;rw[VH,V_];omega,by rw[VH];exact P.o,G.o,an.o,λ_=>by rw[<-U.o (by first|rfl|trivial),u.o.1],(λh=>by cases h),λ_=>d.o<|by first|rfl|trivial⟩
    have u:dh r 9 false=false:=by simp[dh,W]
    have R:ff r 9 false=r:=by rw[ff,u];rfl
    rw[R]at l;rw[u];have HN:Ze<|B=some (aN++[⟨(af tr).s,[],0,x,false⟩],r):=by rw[<-U (by first|rfl|trivial)];exact mS H W
    go_wp2;go_ret;exact⟨J,ua,un,uc,rfl,by rw[HN];exact⟨⟨_,by rw[VH];exact P,G⟩,l⟩⟩
def NH{s:Y9}(hd:k<=21)(b:Bool)(d:b=false->k=0)(X:RT w n s D k b):
 Zc prog 187 #[qP n] w (Ag w n s k (if b=true then none else bR gd D)):=by
 have E:=X.lt;obtain⟨i0,hi,Q,R,S⟩:=V5 pJ;have ae:Ze (∃F,(if b=true then none else bR gd D)=F/\RT w n s D k b/\(b=false->dW gd (D.length+1) [] D=F)/\(b=true->F=none)):=by
  refine⟨_,rfl,X,?_,?_⟩
  .rintro rfl;rfl
  rintro rfl;rfl
 obtain⟨T,ar,_,(ag:Ze _),(Y:Ze _)⟩:=ae.o;have G:=Z d;have ai:=Z X;rw[ar];go_in;go_wp2
 go_loopg [3] (D.length+1) (λg x wr=>∃aN V tr o,Ze<|aH n w wr/\tr.length<g/\aN.length+tr.length<=1048576/\wr.ownsRow w.heap.size 157 5 x aN.length V/\fg wr n aN V/\RT wr n s tr k o/\(o=false->dW gd (tr.length+1) aN tr=T)/\(o=true->T=none)/\(o=false->k=0))
 exact⟨[],[],D,b,aH.refl _ _,by omega,by simpa using X.len,VP _ _ _ _,rfl,ai.o,ag.o,Y.o,G.o⟩
 case round=>
  obtain⟨aN,V,tr,o,HL⟩:=hrel;obtain⟨(HK:Ze _),hg,ax,(HO:Ze _),(HI:Ze _),(HR:Ze _),(HM:Ze _),(aa:Ze _),d⟩:=HL.o;have c:=Z d;have ay:=HK.size;obtain⟨va,vn,vc,rfl⟩:=aF HO;go_wp2_with apply(JN o hd c HR).mono;rintro e w1⟨(J:Ze _),a,rfl,O⟩;cases hv:MO o (eo 20 tr)with
  |none=>
   rw[hv]at O;obtain⟨t1,d1,h1,h2,h3⟩:=O;have W:Ze<|T=none:=by
    cases o with
    |true=>exact aa rfl
    |false=>
     show T=none;rw[<-HM rfl];refine ko ?_;unfold gd;have:eo 20 tr=none:=hv;rw[this]
   have K:=Z<|jd 38 (by decide) (by decide) true {data:=#[68,69,83,67]} rfl h3;rw[iz,ju]at K;go_wp2_with fail;apply qR K;rintro U⟨H,z⟩;have j:=Z<|J.trans z;have h:=dM j (by omega) HO;have l:=Z<|HK.trans j;have N:=l.size;have t:=Z H;go_wp2_with (at_builtin;refine VS _ rfl (.tmp 11) (.tmp 15) 108 rfl w.heap.size 157 i0 _ 5 56 underlying108 hi Q R S rfl (by decide) _ _ _ rfl (h.alloc _) ⟨U.heap.size,0,none⟩ 1 1 [.string {data:=#[]},.string {data:=#[]},qI 0,.pointer a,.bool false] rfl rfl ?c1 ?c2 ?c3 ?c4 ?c5 ?_)
   case c1=>exact cW U [.string {data:=#[]},.string {data:=#[]},qI 0,.pointer a,.bool false] 157
   case c2=>intro u P;simp at P;obtain rfl|rfl|rfl|rfl|rfl:=P<;>rfl
   case c3=>unfold Zj;omega
   case c4=>omega
   case c5=>simp;omega
   intro v' w4 i y L;obtain⟨ua,un,uc,rfl⟩:=aF i;obtain⟨A,q,M⟩:=mY (s:=s) (C:=[.string {data:=#[]},.string {data:=#[]},qI 0,.pointer a,.bool false]) E l h y;have r:=Z A;have p:=Z<|xj true<|q _ _ _ t;rw[iz,ju]at p;go_wp2_with fail;apply qR p;rintro w5⟨I,B⟩;go_wp2;go_ret;exact⟨r.trans B,ua,un,uc,rfl,by rw[W];exact⟨t1,d1,h1,h2,I⟩⟩
  |some y=>
   obtain⟨x,r⟩:=y;rw[hv]at O;cases o with
   |true=>cases hv
   |false=>
    have ao:gd tr=some (⟨[],[],0,x,dh r 38 false⟩,ff r 38 false):=by
     unfold gd;have:eo 20 tr=some (x,r):=hv;rw[this];simp only;by_cases p:(af r).k=38
     .have h:dh r 38 false=true:=by simp[dh,p]
      rw[VG p];rw[ff,h];rfl
     have h:dh r 38 false=false:=by simp[dh,p]
     rw[VF p];rw[ff,h];rfl
    have I:=Z ao;have al:=Z O.1;have HF:=Z<|jd 38 (by decide) (by decide) false {data:=#[68,69,83,67]} rfl O.2;generalize dh r 38 false=mk at*;generalize ff r 38 false=l at*;go_wp2_with fail;apply qR HF;rintro w3⟨aq,N⟩;have A:=Z<|J.trans N;have i:=dM A (by omega) HO;have ab:=Z<|HI.mono λt v=>bz.d A;have am:=Z<|al.d N;have L:=Z<|HK.trans A;have aw:=L.size;have aj:=Z aq;go_wp2_with (at_builtin;refine VS _ rfl (.tmp 11) (.tmp 15) 108 rfl w.heap.size 157 i0 _ 5 56 underlying108 hi Q R S rfl (by decide) _ _ _ rfl (i.alloc _) ⟨w3.heap.size,0,none⟩ 1 1 [.string {data:=#[]},.string {data:=#[]},qI 0,.pointer a,.bool mk] rfl rfl ?c1 ?c2 ?c3 ?c4 ?c5 ?_)
    case c1=>exact cW w3 [.string {data:=#[]},.string {data:=#[]},qI 0,.pointer a,.bool mk] 157
    case c2=>intro u h;simp at h;obtain rfl|rfl|rfl|rfl|rfl:=h<;>rfl
    case c3=>unfold Zj;omega
    case c4=>omega
    case c5=>simp;omega
    intro v' w4 j an av;obtain⟨ua,un,uc,rfl⟩:=aF j;obtain⟨ap,P,z⟩:=mY (s:=s) (C:=[.string {data:=#[]},.string {data:=#[]},qI 0,.pointer a,.bool mk]) E L i an;have ad:=Z ap;have ah:=Z j;have ac:Ze<|fg w4 n (aN++[⟨[],[],0,x,mk⟩])<|V++j4 ⟨[],[],0,x,mk⟩ (.pointer a):=(ab.mono z).snoc (Z<|z _ _ am).o;go_wp2_with fail;refine qR (U<|Z<|xj false<|P _ _ _ aj) ?_;rintro w5⟨q,B⟩;have K:=Z<|ad.trans B;have M:=Z<|dM B E ah;have H:=Z<|ac.mono λt v=>bz.d B;by_cases W:(af l).k=9
    .have u:dh l 9 false=true:=by simp[dh,W]
     have au:ff l 9 false=l.tail:=by rw[ff,u];rfl
     rw[au]at q;rw[u];have ak:=Z q;have p:=Z<|l3 sD I W (acc:=aN);go_wp2
     go_roundg (l.tail.length+1)
     case measure=>have:=p.o.2;omega
     exact⟨aN++[⟨[],[],0,x,mk⟩],_,l.tail,false,K.o,by omega,by have:=p.o.2;rw[VH,V_];omega,by rw[VH];exact M.o,H.o,ak.o,λ_=>by rw[<-HM.o (by first|rfl|trivial),p.o.1],(λh=>by cases h),λ_=>c.o<|by first|rfl|trivial⟩
    have h:dh l 9 false=false:=by simp[dh,W]
    have p:ff l 9 false=l:=by rw[ff,h];rfl
    rw[p]at q;rw[h];have u:Ze<|T=some (aN++[⟨[],[],0,x,mk⟩],l):=by rw[<-HM (by first|rfl|trivial)];exact mS I W
    go_wp2;go_ret;exact⟨K,ua,un,uc,rfl,by rw[u];exact⟨⟨_,by rw[VH];exact M,H⟩,q⟩⟩
def Rp(w:Za)(rb:Nat)(s:Y9)(d:Nat)(spec:Option<|ay×YV)(e:Zg)(w':Za):Prop:=
 aH rb w w'/\∃N O:Y9,e=.returned (.agg #[.string N,.string O,qI 0,.pointer none,.bool false])/\match spec with
  |some (it,r)=>N=⟨it.name.toArray⟩/\O=⟨it.aY.toArray⟩/\RT w' rb s r d false
  |none=>∃ts',RT w' rb s ts' d true
def KX(b:Bool)(x:Option<|ay×YV):Option<|ay×YV:=if b=true then none else x
def BL(h:aH n w W){e f:Zb}:aH n w<|((((W.setCell ⟨w.heap.size,0,none⟩ u).setCell ⟨w.heap.size,1,none⟩ z).setCell ⟨w.heap.size,2,none⟩ A).setCell ⟨w.heap.size,3,none⟩ e).setCell ⟨w.heap.size,4,none⟩ f:=
 ((((h.l qZ _).l qZ _).l qZ _).l qZ _).l qZ _
def Ky{s:Y9}(d:n≠w.heap.size)(h:RT W n s D k L)(a b c e f:Zb):
 RT (((((W.setCell ⟨w.heap.size,0,none⟩ a).setCell ⟨w.heap.size,1,none⟩ b).setCell ⟨w.heap.size,2,none⟩ c).setCell ⟨w.heap.size,3,none⟩ e).setCell ⟨w.heap.size,4,none⟩ f) n s D k L:=by
 obtain⟨p,g,i,j,l⟩:=h;exact⟨p,g,i,bY (bY (bY (bY (bY j d _ _) d _ _) d _ _) d _ _) d _ _,l⟩
def BP{s:Y9}(b:Bool)(F:RT w n s D k b):
 Zc prog 239 #[qP n] w (Rp w n s k<|KX b<|cg D):=by
 have P:=F.lt;have i:n≠w.heap.size:=by omega
 go_in;go_wp2_with fail;refine qR (Z<|uB b<|F.alloc<|.cells #[.string {data:=#[]},.string {data:=#[]},qI 0,.pointer none,.bool false] 157) ?_;rintro Q⟨A,c⟩;have j:=Z<|c.q (WN i)<|aM w _;go_wp2_with fail;apply qR<|Z<|jd 32 (by decide) (by decide) _ {data:=#[65,83]} rfl A;rintro R⟨g,t⟩;have a:=t.q (WN i) j;have o:=Z<|(Z<|((aH.refl n w).alloc _).trans c).trans t;have p:=Z g;cases e:dh (ff D 1 b) 32<|!dh D 1 b
 .have y:=bC a 0;have z:=bC a 1;have B:=bC a 2;have C:=bC a 3;have E:=bC a 4;have H:=bF a;simp at y z B C E;have g:=p.o;have h:ff (ff D 1 b) 32 (!dh D 1 b)=ff D 1 b:=by unfold ff;rw[show dh (if dh D 1 b=true then D.tail else D) 32 (!dh D 1 b)=false from e];rfl
  rw[h]at g;have l:=Z g;have u:=Z e;go_wp2_with fail;refine VI (v:=.agg #[.string<|bG<|af D,.string<|bG<|af D,.int .i64 0,.pointer none,.bool false]) ?_ rfl ⟨BL o,_,_,rfl,?_⟩
  .simp[results,results239,go_sem,y,z,B,C,E]
  have d:=Ky i l (.string<|bG<|af D) (.string<|bG<|af D) (qI 0) (.pointer none)<|.bool false;by_cases q:dh D 1 b=true
  .have G:b=false:=by cases b<;>simp[dh]at q ⊢
   subst G;have c:(af D).k=1:=by simpa[dh]using q
   have h:ff D 1 false=D.tail:=by rw[ff,q];rfl
   have e:=u.o;rw[q,h]at e d;have r:(af D.tail).k≠32:=by simpa[dh]using e
   have x:bG (af D)=⟨(af D).s.toArray⟩:=by simp[bG,gT,c]
   have:KX false (cg D)=some (⟨(af D).s,(af D).s,0,.nil,false⟩,D.tail):=by show cg D=_;rw[cg,VG c,VF r]
   rw[this];exact⟨x,x,d⟩
  have r:dh D 1 b=false:=by simpa using q
  rw[r]at d;have:KX b (cg D)=none:=by
   cases b with
   |true=>rfl
   |false=>
    have c:(af D).k≠1:=by simpa[dh]using r
    show cg D=none;rw[cg,VF c]
  rw[this];exact⟨_,d⟩
 ·have E:(!dh D 1 b)=false:=by
   have h:=e;unfold dh at h;simp at h;simpa[dh]using h.1
  have z:dh D 1 b=true:=by simpa using E
  have M:b=false:=by cases b<;>simp[dh]at z ⊢
  subst M;have N:ff D 1 false=D.tail:=by rw[ff,z];rfl
  have c:(af D).k=1:=by simpa[dh]using z
  have g:=p.o;rw[N,E]at e g;have O:ff D.tail 32 false=D.tail.tail:=by rw[ff,e];rfl
  have x:(af D.tail).k=32:=by simpa[dh]using e
  rw[O]at g;have L:Ze<|bG (af D)=⟨(af D).s.toArray⟩:=by simp[Ze,bG,gT,c]
  have l:=Z a;have q:Ze<|KX false (cg D)=if (af D.tail.tail).k=1 then some (⟨(af D).s,(af D.tail.tail).s,0,.nil,false⟩,D.tail.tail.tail)else none:=by show cg D=_;rw[cg,VG c,VG x]
  go_wp2_with fail;apply qR<|Z<|uB false g;rintro S⟨B,u⟩;have d:=u.q (WN i) l;have G:=bC d 0;have H:=bC d 1;have I:=bC d 2;have J:=bC d 3;have K:=bC d 4;have T:=bF d;simp at G H I J K;have y:=Z B;go_wp2_with fail;refine VI (v:=.agg #[.string<|bG<|af D,.string<|bG<|af D.tail.tail,.int .i64 0,.pointer none,.bool false]) ?_ rfl ⟨BL<|Z<|o.trans u,_,_,rfl,?_⟩
  .simp[results,results239,go_sem,G,H,I,J,K]
  have h:=Ky i y (.string<|bG<|af D) (.string<|bG<|af D.tail.tail) (qI 0) (.pointer none)<|.bool false;by_cases r:(af D.tail.tail).k=1
  .have hi:dh D.tail.tail 1 false=true:=by simp[dh,r]
   have C:ff D.tail.tail 1 false=D.tail.tail.tail:=by rw[ff,hi];rfl
   rw[hi,C]at h;rw[q,VG r];exact⟨L,by simp[bG,gT,r],h⟩
  have hi:dh D.tail.tail 1 false=false:=by simp[dh,r]
  rw[hi]at h;rw[q,VF r];exact⟨_,h⟩
def bz.nodes(h:∀(n:Nat)(C:Y_),w.heap[n]?=some (.cells C 301)->W.heap[n]?=some (.cells C 301)):∀{t:aA}{v:Zb},bz w k t v->bz W k t v
 |.nil,_,hh=>hh
 |.node _ _ a l r,v,⟨n,vl,vr,hv,hn,hb,hl,hr⟩=>⟨n,vl,vr,hv,hn,h n _ hb,bz.nodes h hl,bz.nodes h hr⟩
def De{C D:Y_}(b:w.heap[k]?=some (.cells C 157))(a:w.heap[k]?=some (.cells D 301)):False:=by rw[b]at a;injection a with a;injection a with _ a _;exact absurd a<|by decide
def bz.y{C:Y_}(b:w.heap[i]?=some (.cells C 157))(o:Nat)(u:Zb){v:Zb}(h:bz w k R v):bz (w.setCell ⟨i,o,none⟩ u) k R v:=
 h.nodes (λn D a=>by
  by_cases e:n=i
  .subst e;exact(De b a).elim
  .exact bY a e _ _)
def yt{e:Zf}{v:Zb}{c:Y0}(o:i<=k)(h:w.ownsRow k e j v n c):w.ownsRow i e j v n c:=by
 obtain⟨d,b⟩:=h;refine⟨d,?_⟩;obtain b|⟨g,cap,a,l,p,r⟩:=b
 .exact .inl b
 exact .inr ⟨g,cap,a,l,by omega,r⟩
def mP(w:Za)(xb:Nat)(n o:Y9)(t:Int)(a:Y8)(m:Bool):Prop:=w.heap[xb]?=some (.cells #[.string n,.string o,qI t,.pointer a,.bool m] 157)
def mP.c{n o:Y9}{a:Y8}{m:Bool}(h:mP w k n o M a m):
 w.cell? ⟨k,0,none⟩=some (.string n)/\w.cell? ⟨k,1,none⟩=some (.string o)/\w.cell? ⟨k,2,none⟩=some (qI M)/\w.cell? ⟨k,3,none⟩=some (.pointer a)/\w.cell? ⟨k,4,none⟩=some (.bool m)/\(∀i,w.frozen? ⟨k,i,none⟩=false):=
 ⟨bC h 0,bC h 1,bC h 2,bC h 3,bC h 4,bF h⟩
def GQ(w:Za)(xb:Nat)(n o:Y9)(t:Int)(a:Y8)(m:Bool):Za:=
 ((((w.setCell ⟨xb,0,none⟩<|.string n).setCell ⟨xb,1,none⟩<|.string o).setCell ⟨xb,2,none⟩<|qI t).setCell ⟨xb,3,none⟩<|.pointer a).setCell ⟨xb,4,none⟩ (.bool m)
def OA{n o d e:Y9}{g:Int}{a c:Y8}{m:Bool}(h:mP w k n o M a m):mP (GQ w k d e g c b) k d e g c b:=by have:=bS (bS (bS (bS (bS h 0<|.string d) 1<|.string e) 2<|qI g) 3<|.pointer c) 4<|.bool b;unfold mP GQ;simpa using this
def GR{X:Obj}(c:w.heap[k]?=some X)(b:k≠i){n o:Y9}{a:Y8}(m:Bool):(GQ w i n o M a m).heap[k]?=some X:=
 bY (bY (bY (bY (bY c b _ _) b _ _) b _ _) b _ _) b _ _
def LY(h:aH k w W)(b:w.heap.size<=i)(n o:Y9)(t:Int)(a:Y8)(m:Bool):aH k w<|GQ W i n o t a m:=
 ((((h.l b _).l b _).l b _).l b _).l b _
def Qv{s:Y9}(c:k≠i)(h:RT w k s D j b)(n o:Y9)(t:Int)(a:Y8)(m:Bool):RT (GQ w i n o t a m) k s D j b:=by obtain⟨p,d,e,g,l⟩:=h;exact⟨p,d,e,GR g c _,l⟩
def LZ{n o n' o':Y9}{t':Int}{a a':Y8}{m m':Bool}(h:mP w j n o M a m){v:Zb}(c:bz w i R v):bz (GQ w j n' o' t' a' m') i R v:=
 c.nodes (λk D b=>by
  by_cases e:k=j
  .subst e;exact(De h b).elim
  .exact GR b e _)
def Oz{e:Zf}{b:Nat}{v:Zb}{d:Y0}(c:i<j)(h:w.ownsRow j e b v k d)(n o:Y9)(t:Int)(a:Y8)(m:Bool):(GQ w i n o t a m).ownsRow j e b v k d:=
 ownsRow_setCell_below (ownsRow_setCell_below (ownsRow_setCell_below (ownsRow_setCell_below (ownsRow_setCell_below h c _) c _) c _) c _) c _
def O6{n o:Y9}{a a':Y8}{m m':Bool}(h:mP w k n o M a m):mP ((w.setCell ⟨k,3,none⟩<|.pointer a').setCell ⟨k,4,none⟩<|.bool m') k n o M a' m':=by have:=bS (bS h 3<|.pointer a') 4<|.bool m';unfold mP;simpa using this
def Bo(_:Bool):Prop:=True
abbrev bo{b:Bool}(_:Bo b):Bool:=b
def O5{n o:Y9}{a c:Y8}{m:Bool}{O:Obj}{g:Option Nat}(h:mP w k n o M a m)(i:Za.grownBy (((w.setCell ⟨k,3,none⟩<|.pointer c).setCell ⟨k,4,none⟩<|.bool b).alloc O) W g)(d:some k≠g):mP W k n o M c b:=by have e:=bA (O6 h (a':=c) (m':=b)) O;unfold mP;rw[i.block k (lB e) d];exact e
def QV(w wr:Za)(rb xb:Nat)(s:Y9)(d:Nat)(sp:Option<|Y3×YV)(g:Nat)(v:Zb)(aN:Y3)(cs:Y0):Prop:=
 aH rb w wr/\(∃a n c,v=.slice a n c) /\
  ((∃ts,xb<wr.heap.size/\wr.ownsRow (xb+1) 157 5 v aN.length cs/\fg wr rb aN cs/\(∃n o t a m,mP wr xb n o t a m)/\ts.length<g/\aN.length+ts.length<=1048577/\d=0/\RT wr rb s ts d false/\dJ (ts.length+1) aN ts=sp) \/
    (∃ts' d',d<=d'/\d'<=21/\RT wr rb s ts' d' true/\sp=none))
def G4{s:Y9}(hd:k<=21)(b:Bool)(c:b=false->k=0)(g:RT w n s D k b):
 Zc prog 186 #[qP n] w (Ag w n s k (if b=true then none else dn D)):=by
 have ax:=g.lt;have aI:=g.len;obtain⟨i0,hi,aD,aE,aG⟩:=V5 pJ;have h:=Z<|BP b g;have X:=Z c;generalize d:(if b=true then none else dn D)=sp;have ah:=Z d;clear g c d;go_in;go_wp2_with refine h.mono ?_;rintro e c⟨(ab:Ze _),N,O,rfl,d⟩;have G:=ab.size;have g:=Z d;clear d h;have av:∃aN V,Ze<|QV w ((c.alloc<|.cells #[.string N,.string O,qI 0,.pointer none,.bool false] 157).alloc<|.cells #[.string N,.string O,qI 0,.pointer none,.bool false] 157) n c.heap.size s k sp (D.length+1) (qL (c.heap.size+1) 1 1) aN V:=by
  have i:((c.alloc<|.cells #[.string N,.string O,qI 0,.pointer none,.bool false] 157).alloc<|.cells #[.string N,.string O,qI 0,.pointer none,.bool false] 157).ownsRow (c.heap.size+1) 157 5 (qL (c.heap.size+1) 1 1) 1 [.string N,.string O,qI 0,.pointer none,.bool false]:=by refine⟨rfl,.inr ⟨c.heap.size+1,1,_,rfl,qZ,iL _ _<|by simp,qZ,by unfold Zj;omega,rfl,rfl⟩⟩
  have l:mP ((c.alloc<|.cells #[.string N,.string O,qI 0,.pointer none,.bool false] 157).alloc<|.cells #[.string N,.string O,qI 0,.pointer none,.bool false] 157) c.heap.size N O 0 none false:=bA (aM c _) _;have h:=(ab.alloc<|.cells #[.string N,.string O,qI 0,.pointer none,.bool false] 157).alloc<|.cells #[.string N,.string O,qI 0,.pointer none,.bool false] 157;have p:=g.o;cases j:KX b (cg D)with
  |none=>
   rw[j]at p;obtain⟨r,o⟩:=p;have q:sp=none:=by
    rw[<-ah];cases b with
    |true=>rfl
    |false=>
     have:cg D=none:=j;show dn D=none;rw[dn,this]
   refine⟨[],[],h,⟨_,_,_,rfl⟩,.inr ⟨r,k,qZ,hd,(o.alloc _).alloc _,q⟩⟩
  |some y=>
   obtain⟨o,r⟩:=y;rw[j]at p;obtain⟨rfl,rfl,q⟩:=p;cases b with
   |true=>cases j
   |false=>
    have hs:cg D=some (o,r):=j;have t:=n_ _ _ _ hs;have hit:o=⟨o.name,o.aY,0,.nil,false⟩:=by
     unfold cg at hs;repeat' (split at hs)
     all_goals first
      |cases hs;done
      |(simp at hs;obtain⟨rfl,_⟩:=hs;rfl)
    refine⟨[o],_,h,⟨_,_,_,rfl⟩,.inl ⟨r,by simp;omega,i,⟨none,[],by rw[hit];simp[j4],by rw[hit];rfl,rfl⟩,⟨_,_,_,_,_,l⟩,by omega,by simp;omega,X rfl,(q.alloc _).alloc _,?_⟩⟩;rw[<-ah];show _=dn D;rw[dn,hs]
 obtain⟨ak,ap,d⟩:=av;clear g;go_wp2
 go_loopg [4] (D.length+1) (λg x wr=>∃aN V,Ze<|QV w wr n c.heap.size s k sp g x aN V)
 exact⟨ak,ap,d⟩
 case round=>
  obtain⟨aN,V,h⟩:=hrel;obtain⟨hk,⟨la,ln,lc,rfl⟩,aw⟩:=h.o;have HK:=Z hk;have aL:=hk.size;clear hk h d;obtain⟨tr,aC,d,l,⟨vn,vo,vt,va,vm,h⟩,hg,aP,aq,T,S⟩|⟨tr,d',ar,au,T,Q⟩:=aw
  .subst aq;have HO:=Z d;have HI:=Z l;have aj:=Z h;clear d l h;obtain⟨r2,r3,rf⟩:=T.c;have l:=Z<|jd 33 (by decide) (by decide) false {data:=#[76,69,70,84]} rfl T;have HJ:=Z S;clear T S;go_wp2_with fail;apply qR l;rintro w2⟨j,i⟩;have h:=Z i;have d:=Z<|jd 34 (by decide) (by decide) false {data:=#[74,79,73,78]} rfl j;clear j i l r2 r3 rf;go_wp2_with fail;apply qR d;rintro w3⟨j,i⟩;have B:=Z<|h.trans i;clear i d h;by_cases F:∃lf L,dh tr 33 false=lf/\dh (ff tr 33 false) 34 false=true/\ff (ff tr 33 false) 34 false=L/\mu lf tr L
   .obtain⟨lf,L,h,i,l,d⟩:=F;have aa:=Z d;have aQ:=wZ d;rw[h,i];rw[l]at j;have t:=Z<|BP false j;clear h i l d j;have A:n≠c.heap.size:=by omega
    have HM:Bo lf:=trivial;cases lf;all_goals
     go_wp2_with refine t.mono ?_;rintro e w4⟨u,H,I,rfl,d⟩;have C:=Z<|B.trans u;have i:mP w4 c.heap.size vn vo vt va vm:=C.q (WN A) aj;have aO:c.heap.size<w4.heap.size:=VT aC C.size;obtain⟨x0,x1,x2,x3,x4,xf⟩:=i.c;have E:=Z i;have az:∃q K,RT w4 n s q 0 K/\(K=false->∃l,cg L=some (l,q)/\H=⟨l.name.toArray⟩/\I=⟨l.aY.toArray⟩)/\(K=true->cg L=none):=by
      cases hv:KX false (cg L)with
      |none=>
       rw[hv]at d;obtain⟨r,o⟩:=d;exact⟨r,true,o,(λh=>by cases h),λ_=>hv⟩
      |some y=>
       obtain⟨l,r⟩:=y;rw[hv]at d;exact⟨r,false,d.2.2,λ_=>⟨l,hv,d.1,d.2.1⟩,λh=>by cases h⟩
     obtain⟨q,K,o,(Y:Ze _),(al:Ze _)⟩:=az;have p:=Z<|mU 35 (by decide) (by decide) K {data:=#[79,78]} rfl<|Qv A o H I 0 none false;unfold GQ at p;clear u d t o i;go_wp2_with fail;apply qR p;rintro w5⟨i,(z:Ze _)⟩;have d:mP w5 c.heap.size H I 0 none false:=z.q (WN A)<|OA E;have R:=Z d;have t:=Z<|JN _ (by omega) (λ_=>rfl) i;clear i d p x0 x1 x2 x3 x4 xf;go_wp2_with refine t.mono ?_;rintro e W⟨(J:Ze _),a6,rfl,o⟩;have i:mP W c.heap.size H I 0 none false:=J.q (WN A) R;obtain⟨x0,x1,x2,x3,x4,xf⟩:=i.c;have d:=Z i;have an:=Z o;clear o i t;have ad:=Z<|((LY (HK.trans C) G H I 0 none false).trans z).trans J;have am:=Z<|(((HI.mono λt v=>bz.d C).mono λt v h=>LZ E h (n':=H) (o':=I) (t':=0) (a':=none) (m':=false)).mono λt v=>bz.d z).mono λt v=>bz.d J;have aK:=ad.size;have aR:c.heap.size<W.heap.size:=lB d;have i:=λm=>ownsRow_setCell_below (ownsRow_setCell_below (dM J (show n<c.heap.size+1 by omega)<|dM z (by omega)<|Oz (WC _) (dM C (by omega) HO) H I 0 none false) (a:=⟨c.heap.size,3,none⟩) (WC _)<|.pointer a6) (a:=⟨c.heap.size,4,none⟩) (WC _)<|.bool m;have aH:aN.length<=1048577:=by omega
     go_wp2_with (at_builtin;refine VS _ rfl (.tmp 39) (.tmp 41) 108 rfl (c.heap.size+1) 157 i0 _ 5 56 underlying108 hi aD aE aG rfl (by decide) _ _ _ rfl ((i _).alloc _) ⟨W.heap.size,0,none⟩ 1 1 [.string H,.string I,qI 0,.pointer a6,.bool<|bo HM] rfl rfl ?c1 ?c2 ?c3 ?c4 ?c5 ?_)
     case c1=>
      have:=λm=>cW ((W.setCell ⟨c.heap.size,3,none⟩<|.pointer a6).setCell ⟨c.heap.size,4,none⟩<|.bool m) [.string H,.string I,qI 0,.pointer a6,.bool m] 157;simp only[size_set]at this;exact this _
     case c2=>intro u r;simp at r;obtain rfl|rfl|rfl|rfl|rfl:=r<;>rfl
     case c3=>unfold Zj;omega
     case c4=>omega
     case c5=>simp;omega
     intro v' w7 (ae:Ze _) hg7 hnil;obtain⟨ua,un,uc,rfl⟩:=aF ae;obtain⟨(ac:Ze _),P,M⟩:=mY (s:=s) (aN:=aN) ax ((ad.l G _).l G _) (yt (by omega)<|i _) hg7;have U:=O5 d hg7 (λe=>by have:=((i true).lt c.heap.size e.symm).1;omega);have tX:∀t v,bz W n t v->bz w7 n t v:=λt v h=>M _ _<|bz.y (bS d 3 _) 4 _<|bz.y d 3 _ h
     have rX:∀ D k b,RT W n s D k b->RT w7 n s D k b:=λD k b h=>P _ _ _ (by
      obtain⟨p,q1,q2,q3,q4⟩:=h
      exact⟨p,q1,q2,bY (bY q3 A _ _) A _ _,q4⟩)
     have ao:=Z U;have ai:=Z tX;have ag:=Z rX;have aB:c.heap.size<w7.heap.size:=lB U;clear P M hg7 hnil i U tX rX x0 x1 x2 x3 x4 xf;go_wp2;have o:=an.o;cases hv6:MO (!dh q 35 K) (eo 20<|ff q 35 K)with
     |none=>
      rw[hv6]at o;obtain⟨U,u,y,M,P⟩:=o;have S:∀lf,dE lf L=none:=λlf=>by
       unfold dE;cases K with
       |true=>rw[al rfl]
       |false=>
        obtain⟨l,hs,_,_⟩:=Y.o rfl;rw[hs];simp only;by_cases i:(af q).k=35
        .have hi:dh q 35 false=true:=by simp[dh,i]
         have r:ff q 35 false=q.tail:=by rw[ff,hi];rfl
         rw[hi,r]at hv6;have:eo 20 q.tail=none:=hv6;rw[VG i,this]
        rw[VF i]
      go_roundg 0
      case measure=>omega
      exact⟨[],[],ac,⟨_,_,_,rfl⟩,.inr ⟨U,u,y,M,ag _ _ _ P,by rw[<-HJ,oS aa,S]⟩⟩
     |some y=>
      obtain⟨x,r⟩:=y;rw[hv6]at o;have U:∃l:ay,(∀lf,dE lf L=some (⟨l.name,l.aY,0,x,lf⟩,r))/\H=⟨l.name.toArray⟩/\I=⟨l.aY.toArray⟩/\True:=by
       cases K with
       |true=>cases hv6
       |false=>
        obtain⟨l,hs,M,P⟩:=Y.o rfl;by_cases i:(af q).k=35
        .have hi:dh q 35 false=true:=by simp[dh,i]
         have aA:ff q 35 false=q.tail:=by rw[ff,hi];rfl
         rw[hi,aA]at hv6;have u:eo 20 q.tail=some (x,r):=hv6;refine⟨l,λlf=>?_,M,P,trivial⟩;unfold dE;rw[hs];simp only;rw[VG i,u]
        have hi:dh q 35 false=false:=by simp[dh,i]
        rw[hi]at hv6;cases hv6
      obtain⟨l,S,M,P,_⟩:=U;have aJ:=kG _ _ _ _<|S true
      go_roundg (r.length+1)
      case measure=>omega
      refine⟨aN++[⟨l.name,l.aY,0,x,bo HM⟩],V++j4 ⟨l.name,l.aY,0,x,bo HM⟩ (.pointer a6),ac,⟨_,_,_,rfl⟩,.inl ⟨r,aB,?_,?_,⟨_,_,_,_,_,ao⟩,by omega,?_,rfl,ag _ _ _ o.2,?_⟩⟩
      .rw[VH];have:=ae.o;rw[M,P]at this;exact this
      .exact(am.mono ai).snoc (ai _ _ o.1)
      .rw[VH,V_];omega
      rw[<-HJ,oS aa,S]
   by_cases d:(af tr).k=33
   .have hi:dh tr 33 false=true:=by simp[dh,d]
    have i:ff tr 33 false=tr.tail:=by rw[ff,hi];rfl
    have l:(af tr.tail).k≠34:=λh=>F ⟨true,tr.tail.tail,hi,by rw[i];simp[dh,h],by rw[i];rw[ff,show dh tr.tail 34 false=true by simp[dh,h]];rfl,by rw[mu,VG rfl];exact⟨d,h,rfl⟩⟩;have o:dh (ff tr 33 false) 34 false=false:=by rw[i];simp[dh,l]
    rw[hi,o];obtain⟨r2,r3,rf⟩:=j.c;have p:=Z j.d;have q:Ze<|sp=none:=by rw[<-HJ];exact sN d l
    clear j hi i l o d F;go_wp2;go_ret;exact⟨(HK.trans B).set _ _,la,ln,lc,rfl,by rw[q];exact⟨_,0,qZ,by omega,p⟩⟩
   have hi:dh tr 33 false=false:=by simp[dh,d]
   have i:ff tr 33 false=tr:=by rw[ff,hi];rfl
   have p:(af tr).k≠34:=λh=>F ⟨false,tr.tail,hi,by rw[i];simp[dh,h],by rw[i];rw[ff,show dh tr 34 false=true by simp[dh,h]];rfl,by rw[mu,VF<|by simp];exact⟨h,rfl⟩⟩;have l:dh (ff tr 33 false) 34 false=false:=by rw[i];simp[dh,p]
   have o:ff (ff tr 33 false) 34 false=tr:=by
    have r:dh tr 34 false=false:=by rw[i]at l;exact l
    rw[i];rw[ff,r];rfl
   rw[hi,l];rw[o]at j;have q:=Z j;have u:Ze<|sp=some (aN,tr):=by rw[<-HJ];exact w_ d p
   clear j hi i p l d F o;go_wp2;go_ret;exact⟨HK.trans B,la,ln,lc,rfl,by rw[u];exact⟨⟨V,Z<|yt (show w.heap.size<=c.heap.size+1 by omega)<|dM B (by omega) HO,Z<|HI.mono λt v=>bz.d B⟩,q⟩⟩
  obtain⟨o,p,rf⟩:=T.c;have i:=Z T;have j:=Z Q;clear T Q;go_wp2;go_ret;exact⟨HK,la,ln,lc,rfl,by rw[j];exact⟨tr,d',ar,au,i⟩⟩
def bQ(aC:Int)(table:Y9)(vi vs:Zb)(vw:Y8)(vk:Zb)(dis all:Bool)(lim off:Int):Y_:=
 #[.int .u8 aC,.string table,vi,vs,.pointer vw,vk,.bool dis,.bool all,qI lim,qI off]
def Tc(w:Za)(rb:Nat)(st:aX)(a:Y8):Prop:=
 ∃(p:Nat) (vi vs vk:Zb) (vw:Y8),a=some ⟨p,0,none⟩/\rb<p/\w.heap[p]?=some (.cells (bQ st.aC ⟨st.table.toArray⟩ vi vs vw vk st.a st.all st.g st.offset) 111) /\
  e7 w rb (rb+1) st.c vi/\e7 w rb (rb+1) st.b vs/\bz w rb st.d (.pointer vw)/\e7 w rb (rb+1) st.e vk
def rQ(w:Za)(rb:Nat)(s:Y9)(spec:Option<|aX×YV)(e:Zg)(w':Za):Prop:=
 aH rb w w'/\∃a:Y8,e=.returned (.pointer a)/\match spec with
  |some (st,r)=>Tc w' rb st a/\RT w' rb s r 0 false
  |none=>∃ts' d',d'<=21/\RT w' rb s ts' d' true
def jf:e7 w n (n+1) [] qN:=⟨[],VP _ _ _ _,rfl⟩
def lC:Y4:=[20,22,25,28,30]
def nP:jX (w.alloc<|.cells #[.string {data:=#[67,82,69,65,84,69]},.string {data:=#[73,78,83,69,82,84]},.string {data:=#[68,69,76,69,84,69]},.string {data:=#[85,80,68,65,84,69]},.string {data:=#[83,69,76,69,67,84]}] 9) w.heap.size lC:=
 m8 w lC _ rfl (by decide)
def bz.c{C:Y_}(b:w.heap[i]?=some (.cells C 111))(o:Nat)(u:Zb){v:Zb}(h:bz w k R v):bz (w.setCell ⟨i,o,none⟩ u) k R v:=
 h.nodes (λn D a=>by
  by_cases e:n=i
  .subst e;rw[b]at a;injection a with a;injection a with _ a _;exact absurd a<|by decide
  .exact bY a e _ _)
def kW(a:YV)(k:Nat)(b:Bool):dh a k b=true↔b=false/\(af a).k=k:=by unfold dh;cases b<;>simp
def vL(h:dh D k b=true):ff D k b=D.tail:=by unfold ff;rw[h];rfl
def gh(h:(!dh D k b)=false):b=false/\(af D).k=k/\ff D k b=D.tail:=by
 have a:dh D k b=true:=by simpa using h
 exact⟨((kW _ _ _).1 a).1,((kW _ _ _).1 a).2,vL a⟩
def iS(h:(!dh D k b)=true):b=true\/(b=false/\(af D).k≠k):=by
 have a:dh D k b=false:=by simpa using h
 cases b with
 |true=>exact .inl rfl
 |false=>exact .inr ⟨rfl,λe=>by have:=(kW D k false).2 ⟨rfl,e⟩;rw[a]at this;cases this⟩
def B6{s:Y9}(b:Bool)(d:k<=21)(c:b=false->k=0)(a:RT w n s D k b):
 Zc prog 125 #[qP n] w (dZ w n s k<|MO b<|bX D):=by
 cases b with
 |false=>have:=c rfl;subst this;exact JS n s D w a
 |true=>exact Ml n s D k w d a
def Hc{s:Y9}(V:RT w n s D 0 false)(X:(af D).k=25):
 Zc prog 75 #[qP n] w (rQ w n s<|aJ D):=by
 have aa:=V.lt;have u:=Z<|lh 5 rfl 5 false ((V.alloc<|.cells (bQ 0 {data:=#[]} qN qN none qN false false 0 0) 111).alloc<|.cells #[.string {data:=#[67,82,69,65,84,69]},.string {data:=#[73,78,83,69,82,84]},.string {data:=#[68,69,76,69,84,69]},.string {data:=#[85,80,68,65,84,69]},.string {data:=#[83,69,76,69,67,84]}] 9) nP (by simp;omega) (by omega);have W:Ze<|gL D false lC 0=2/\eQ D false lC=D.tail:=by simp[Ze,gL,eQ,lC,dh,X]
 rw[W.1,W.2]at u;simp only[WV,bQ]at u;have A:Ze<|aJ D=ez D.tail:=by simp[Ze,aJ,X]
 go_in;go_wp2_with fail;apply qR u;rintro w1⟨K,G⟩;go_wp2_with fail;apply qR<|Z<|mU 26 (by decide) (by decide) false {data:=#[70,82,79,77]} rfl K;rintro w2⟨L,H⟩;have HM:=Z<|uB _ L;go_wp2_with fail;apply qR HM;rintro q⟨o,I⟩;have i:=Z<|(Z<|(Z<|(((aH.refl n w).alloc _).alloc _).trans G).trans H).trans I;have k:=o.lt;have P:∃T b,RT q n s T 0 b/\(b=false->(af D.tail).k=26/\(af D.tail.tail).k=1/\T=D.tail.tail.tail)/\(b=true->ez D.tail=none):=by
  refine⟨_,_,o,?_,?_⟩
  .intro h;obtain⟨x,p,r⟩:=gh h;obtain⟨_,y,S⟩:=gh x;rw[S]at p r ⊢;exact⟨y,p,r⟩
  intro h;unfold ez;obtain p|⟨p,x⟩:=iS h
  .obtain r|⟨_,r⟩:=iS p
   .cases r
   rw[VF r]
  obtain⟨_,r,y⟩:=gh p;rw[y]at x;rw[VG r,VF x]
 obtain⟨T,b,O,F,C⟩:=P;have Q:=Z F;have HB:=Z C;have M:=O.alloc<|.cells (bQ 100 (bG<|af<|ff D.tail 26 false) qN qN none qN false false 0 0) 111;have R:=Z<|B6 b (by omega) (λ_=>rfl) M;have E:=aM q<|.cells (bQ 100 (bG<|af<|ff D.tail 26 false) qN qN none qN false false 0 0) 111;have t:=Z E;simp only[bQ]at R;generalize B:bG (af<|ff D.tail 26 false)=N at*;have z:=Z B;go_wp2_with refine R.mono ?_;rintro e w4⟨j,a,rfl,(HP:Ze _)⟩;have c:=j.q (by omega) t;have x4:=bC c;have xf:=bF c;have g:=Z c;have J:n≠q.heap.size:=by omega
 go_wp2;go_ret;refine⟨(Z<|(i.alloc _).trans j).l i.size _,_,rfl,?_⟩;have l:=HP.o;have Y:∀D d b,RT w4 n s D d b->RT (w4.setCell ⟨q.heap.size,4,none⟩<|.pointer a) n s D d b:=λD d b h=>by obtain⟨p,r,x,y,S⟩:=h;exact⟨p,r,x,bY y J _ _,S⟩
 rw[A];cases hv:MO b (bX T)with
 |none=>
  rw[hv]at l;obtain⟨t5,p,h1,y,S⟩:=l;have U:ez D.tail=none:=by
   cases b with
   |true=>exact HB rfl
   |false=>
    obtain⟨r,x,rfl⟩:=Q.o rfl;have:bX D.tail.tail.tail=none:=hv;rw[ez,VG r,VG x,this]
  rw[U];exact⟨t5,p,y,Y _ _ _ S⟩
 |some y=>
  obtain⟨x,r⟩:=y;rw[hv]at l;cases b with
  |true=>cases hv
  |false=>
   obtain⟨S,U,rfl⟩:=Q.o rfl;have p:bX D.tail.tail.tail=some (x,r):=hv;have hn:ez D.tail=some (eM 100 (af D.tail.tail).s [] x,r):=by rw[ez,VG S,VG U,p]
   have hN:N=⟨(af D.tail.tail).s.toArray⟩:=by rw[<-z,vL<|(kW _ _ _).2 ⟨rfl,S⟩];simp[bG,gT,U]
   rw[hn];refine⟨⟨q.heap.size,qN,qN,qN,a,rfl,k,?_,jf,jf,bz.c g 4 _ l.1,jf⟩,Y _ _ _ l.2⟩;have:=bS g 4<|.pointer a;rw[hN]at this;simpa[bQ,eM]using this
def DF{s:Y9}(d:k<=21)(b:Bool)(c:b=false->k=0)(a:RT w n s D k b):
 Zc prog 124 #[qP n] w (Ag w n s k (if b=true then none else bR dc D)):=by
 cases b with
 |false=>have:=c rfl;subst this;exact Hu a
 |true=>exact JQ d a
def e7.base{base:Nat}{a:Y3}{v:Zb}(e:k<=base)(h:e7 w n base a v):e7 w n k a v:=by obtain⟨b,c,d⟩:=h;exact⟨b,yt e c,d⟩
def e7.c{C:Y_}(j:w.heap[i]?=some (.cells C 111))(o:Nat)(u:Zb){d:Y3}{v:Zb}(h:e7 w n k d v):e7 (w.setCell ⟨i,o,none⟩ u) n k d v:=by
 obtain⟨l,⟨p,c⟩,q⟩:=h;refine⟨l,⟨p,?_⟩,q.mono λt v=>bz.c j o u⟩;obtain c|⟨g,cap,b,y,x,a,r⟩:=c
 .exact .inl c
 refine .inr ⟨g,cap,b,y,x,bY a (λe=>?_) _ _,r⟩;subst e;rw[j]at a;injection a with a;injection a with _ a _;exact absurd a<|by decide
def iF{s:Y9}(a:n≠k)(o:Nat)(u:Zb)(h:RT w n s D i b):RT (w.setCell ⟨k,o,none⟩ u) n s D i b:=by obtain⟨p,c,d,e,g⟩:=h;exact⟨p,c,d,bY e a _ _,g⟩
def Hd{s:Y9}(hR:RT w n s D 0 false)(hk:(af D).k=22):
 Zc prog 75 #[qP n] w (rQ w n s<|aJ D):=by
 have ax:=hR.lt;have HF:=Z<|lh 5 rfl 5 false ((hR.alloc<|.cells (bQ 0 {data:=#[]} qN qN none qN false false 0 0) 111).alloc<|.cells #[.string {data:=#[67,82,69,65,84,69]},.string {data:=#[73,78,83,69,82,84]},.string {data:=#[68,69,76,69,84,69]},.string {data:=#[85,80,68,65,84,69]},.string {data:=#[83,69,76,69,67,84]}] 9) nP (by simp;omega) (by omega);have hf:Ze<|gL D false lC 0=1/\eQ D false lC=D.tail:=by simp[Ze,gL,eQ,lC,dh,hk]
 rw[hf.1,hf.2]at HF;simp only[WV,bQ]at HF;have ae:Ze<|aJ D=dP D.tail:=by simp[Ze,aJ,hk]
 go_in;go_wp2_with fail;apply qR HF;rintro w1⟨am,aj⟩;go_wp2_with fail;apply qR<|Z<|mU 23 (by decide) (by decide) false {data:=#[73,78,84,79]} rfl am;rintro w2⟨an,ak⟩;have HM:=Z<|uB _ an;go_wp2_with fail;apply qR HM;rintro W⟨M,al⟩;have E:=Z<|(Z<|(Z<|(((aH.refl n w).alloc _).alloc _).trans aj).trans ak).trans al;have K:=M.lt;have av:∃T b,RT W n s T 0 b/\(b=false->(af D.tail).k=23/\(af D.tail.tail).k=1/\T=D.tail.tail.tail)/\(b=true->dP D.tail=none):=by
  refine⟨_,_,M,?_,?_⟩
  .intro h;obtain⟨h1,r,y⟩:=gh h;obtain⟨_,h4,h5⟩:=gh h1;rw[h5]at r y ⊢;exact⟨h4,r,y⟩
  intro h;unfold dP;obtain r|⟨r,h2⟩:=iS h
  .obtain y|⟨_,y⟩:=iS r
   .cases y
   rw[VF y]
  obtain⟨_,y,h5⟩:=gh r;rw[h5]at h2;rw[VG y,VF h2]
 obtain⟨T,b,au,g,c⟩:=av;have HG:=Z g;have HB:=Z c;have ar:=au.alloc<|.cells (bQ 105 (bG<|af<|ff D.tail 23 false) qN qN none qN false false 0 0) 111;have HW:=Z<|mU 24 (by decide) (by decide) b {data:=#[86,65,76,85,69,83]} rfl ar;have ah:=aM W<|.cells (bQ 105 (bG<|af<|ff D.tail 23 false) qN qN none qN false false 0 0) 111;have ab:=Z ah;simp only[bQ]at HW;generalize ag:bG (af<|ff D.tail 23 false)=N at*;have ad:=Z ag;go_wp2_with fail;apply qR HW;rintro w4⟨ao,H⟩;have G:=H.q (by omega) ab;have ac:=Z<|(E.alloc _).trans H;have HO:=Z<|mU 7 (by decide) (by decide) _ {data:=#[40]} rfl ao;have z:=Z G;go_wp2_with fail;apply qR HO;rintro w5⟨ap,I⟩;have F:=Z<|ac.trans I;have Q:∃X j,RT w5 n s X 0 j/\(j=false->(af D.tail).k=23/\(af D.tail.tail).k=1/\(af D.tail.tail.tail).k=24/\(af D.tail.tail.tail.tail).k=7/\X=D.tail.tail.tail.tail.tail)/\(j=true->dP D.tail=none):=by
  refine⟨_,_,ap,?_,?_⟩
  .intro h;obtain⟨h1,r,y⟩:=gh h;obtain⟨h4,h5,h6⟩:=gh h1;obtain⟨g1,g2,rfl⟩:=HG.o h4;rw[h6]at r y ⊢;exact⟨g1,g2,h5,r,y⟩
  intro h;obtain r|⟨r,h2⟩:=iS h
  .obtain y|⟨y,h4⟩:=iS r
   .exact HB y
   obtain⟨g1,g2,rfl⟩:=HG.o y;rw[dP,VG g1,VG g2,VF h4]
  obtain⟨h4,h5,h6⟩:=gh r;obtain⟨y,g2,rfl⟩:=HG.o h4;rw[h6]at h2;rw[dP,fK,VG y,VG g2,VG h5,VF h2]
 obtain⟨X,j,O,g,c⟩:=Q;have B:=Z g;have Y:=Z c;have HV:=Z<|DF (by omega) j (λ_=>rfl) O;generalize P:(if j=true then none else bR dc X)=k at HV;have a:=Z P;have A:=Z<|I.q (by omega) z;go_wp2_with refine HV.mono ?_;rintro e w6⟨J,S,V,U,rfl,(HP:Ze _)⟩;have d:=J.q (by omega) A;have x2:=bC d;have xf:=bF d;have aw:n<w5.heap.size:=by have:=F.size;omega
 have L:n≠W.heap.size:=by omega
 have o:=Z d;have R:∃u q x,RT w6 n s u q x/\q<=21/\(x=false->q=0/\∃l,k=some (l,u)/\e7 w6 n (n+1) l (.slice S V U))/\(x=true->k=none):=by
  have hq:=HP.o;cases k with
  |none=>
   obtain⟨t6,q,h1,r,y⟩:=hq;exact⟨t6,q,true,y,r,(λh=>by cases h),λ_=>rfl⟩
  |some y=>
   obtain⟨l,r⟩:=y;exact⟨r,0,false,hq.2,by omega,(λ_=>⟨rfl,l,rfl,hq.1.base<|by omega⟩),λh=>by cases h⟩
 obtain⟨u,q,x,aq,ai,g,c⟩:=R;have C:=Z g;have aa:=Z c;go_wp2_with fail;refine qR (Z<|mU 8 (by decide) (by decide) x {data:=#[41]} rfl<|iF L 2 (.slice S V U) aq) ?_;rintro w7⟨i,t⟩;go_wp2;go_ret;refine⟨(Z<|(Z<|F.trans J).l (p:=⟨W.heap.size,2,none⟩) E.size<|.slice S V U).trans t,_,rfl,?_⟩;rw[ae];cases hb7:(!dh u 8 x)
 ·rw [hb7]at i;obtain⟨h1,h2,h3⟩:=gh hb7;obtain⟨r,l,hl,hI⟩:=C.o h1;rw[h3]at i;subst r;have h:j=false:=by
   cases j with
   |false=>rfl
   |true=>have:=a.o;rw[VG rfl,hl]at this;cases this
  subst h;obtain⟨g1,g2,g3,g4,rfl⟩:=B.o rfl;have y:bR dc D.tail.tail.tail.tail.tail=some (l,u):=by have:=a.o;rw[hl]at this;exact this
  have hn:dP D.tail=some (eM 105 (af D.tail.tail).s l .nil,u.tail):=by unfold dP fK;rw[VG g1,VG g2,VG g3,VG g4,y];simp only;rw[VG h2]
  have hN:N=⟨(af D.tail.tail).s.toArray⟩:=by rw[<-ad,vL<|(kW _ _ _).2 ⟨rfl,g1⟩];simp[bG,gT,g2]
  rw[hn];refine⟨⟨W.heap.size,.slice S V U,qN,qN,none,rfl,K,?_,(hI.c o 2 _).d t<|by omega,jf,rfl,jf⟩,i⟩;have h9:=t.q (WN L)<|bS o 2<|.slice S V U;rw[hN]at h9;simpa[bQ,eM]using h9
 ·rw [hb7]at i;have hn:dP D.tail=none:=by
   cases j with
   |true=>exact Y rfl
   |false=>
    obtain⟨r,y,g3,g4,rfl⟩:=B.o rfl;have hs:bR dc D.tail.tail.tail.tail.tail=k:=a.o;unfold dP fK;rw[VG r,VG y,VG g3,VG g4,hs];obtain h|⟨h,h2⟩:=iS hb7
    .rw[aa h]
    obtain⟨_,l,hl,_⟩:=C.o h;rw[hl];simp only;rw[VF h2]
  rw[hn];exact⟨_,q,ai,i⟩
def Df{c:Y3}{a:Y8}(h:e7 w k i c<|.slice a n j):n=c.length:=by
 obtain⟨l,⟨o,b⟩,p⟩:=h;obtain⟨b,q⟩|⟨g,cap,d,e,_⟩:=b
 .injection b with _ h5 _;omega
 injection e with _ h5 _
def Hb{s:Y9}(hR:RT w n s D 0 false)(hk:(af D).k=20):
 Zc prog 75 #[.pointer<|some ⟨n,0,none⟩] w (rQ w n s<|aJ D):=by
 have av:=hR.lt;have HF:=Z<|lh 5 rfl 5 false ((hR.alloc<|.cells (bQ 0 {data:=#[]} (.slice none 0 0) (.slice none 0 0) none (.slice none 0 0) false false 0 0) 111).alloc<|.cells #[.string {data:=#[67,82,69,65,84,69]},.string {data:=#[73,78,83,69,82,84]},.string {data:=#[68,69,76,69,84,69]},.string {data:=#[85,80,68,65,84,69]},.string {data:=#[83,69,76,69,67,84]}] 9) nP (by simp;omega) (by omega);have hf:Ze<|gL D false lC 0=0/\eQ D false lC=D.tail:=by simp[Ze,gL,eQ,lC,dh,hk]
 rw[hf.1,hf.2]at HF;simp only[WV,bQ]at HF;have K:Ze<|aJ D=dB D.tail:=by simp[Ze,aJ,hk]
 go_in;go_wp2_with fail;refine HF.mono ?_;rintro e w1⟨rfl,ak,ag⟩;have HN:=Z<|mU 21 (by decide) (by decide) false {data:=#[84,65,66,76,69]} rfl ak;go_wp2_with fail;refine HN.mono ?_;rintro e w2⟨rfl,al,ah⟩;have HM:=Z<|uB _ al;go_wp2_with fail;refine HM.mono ?_;rintro e w3⟨rfl,S,ai⟩;have H:=Z<|(Z<|(Z<|(((aH.refl n w).alloc _).alloc _).trans ag).trans ah).trans ai;have Q:=S.lt;have aq:∃T b,RT w3 n s T 0 b/\(b=false->(af D.tail).k=21/\(af D.tail.tail).k=1/\T=D.tail.tail.tail)/\(b=true->dB D.tail=none):=by
  refine⟨_,_,S,?_,?_⟩
  .intro h;obtain⟨h1,r,y⟩:=gh h;obtain⟨_,h4,h5⟩:=gh h1;rw[h5]at r y ⊢;exact⟨h4,r,y⟩
  intro h;unfold dB;obtain r|⟨r,h2⟩:=iS h
  .obtain y|⟨_,y⟩:=iS r
   .cases y
   rw[VF y]
  obtain⟨_,y,h5⟩:=gh r;rw[h5]at h2;rw[VG y,VF h2]
 obtain⟨T,b,ap,j,g⟩:=aq;have HG:=Z j;have HB:=Z g;have ao:=ap.alloc<|.cells (bQ 99 (bG<|af<|ff D.tail 21 false) (.slice none 0 0) (.slice none 0 0) none (.slice none 0 0) false false 0 0) 111;have HO:=Z<|mU 7 (by decide) (by decide) b {data:=#[40]} rfl ao;have ae:=aM w3<|.cells (bQ 99 (bG<|af<|ff D.tail 21 false) (.slice none 0 0) (.slice none 0 0) none (.slice none 0 0) false false 0 0) 111;have ab:=Z ae;simp only[bQ]at HO;generalize ad:bG (af<|ff D.tail 21 false)=N at*;have ac:=Z ad;go_wp2_with fail;refine HO.mono ?_;rintro e w5⟨rfl,am,O⟩;have L:=O.q (by omega) ab;have I:=Z<|(H.alloc _).trans O;have W:∃T4 o,RT w5 n s T4 0 o/\(o=false->(af D.tail).k=21/\(af D.tail.tail).k=1/\(af D.tail.tail.tail).k=7/\T4=D.tail.tail.tail.tail)/\(o=true->dB D.tail=none):=by
  refine⟨_,_,am,?_,?_⟩
  .intro h;obtain⟨h1,h2,h3⟩:=gh h;obtain⟨r,y,rfl⟩:=HG.o h1;exact⟨r,y,h2,h3⟩
  intro h;obtain r|⟨r,h2⟩:=iS h
  .exact HB r
  obtain⟨y,g2,rfl⟩:=HG.o r;rw[dB,fK,VG y,VG g2,VF h2]
 obtain⟨T4,o,U,j,g⟩:=W;have u:=Z j;have E:=Z g;have HV:=Z<|Iy (by omega) o U;generalize V:(if o=true then none else bR dL T4)=k at HV;have d:=Z V;have G:=Z L;go_wp2_with fail;refine HV.mono ?_;rintro e w6⟨P,Y,B,vc,rfl,(HP:Ze _)⟩;have i:=P.q (by omega) G;have x2:=bC i 2;have xf:=bF i;simp[bQ]at x2;have au:n<w5.heap.size:=by have:=I.size;omega
 have R:n≠w3.heap.size:=by omega
 have q:=Z i;have X:∃C t A,RT w6 n s C t A/\t<=21/\(A=false->t=0/\∃l,k=some (l,C)/\e7 w6 n (n+1) l (.slice Y B vc)/\B=l.length)/\(A=true->k=none):=by
  have hq:=HP.o;cases k with
  |none=>
   obtain⟨t6,t,h1,r,y⟩:=hq;exact⟨t6,t,true,y,r,(λh=>by cases h),λ_=>rfl⟩
  |some y=>
   obtain⟨l,r⟩:=y;exact⟨r,0,false,hq.2,by omega,(λ_=>⟨rfl,l,rfl,hq.1.base<|by omega,Df hq.1⟩),λh=>by cases h⟩
 obtain⟨C,t,A,an,M,j,g⟩:=X;have x:=Z j;have F:=Z g;go_wp2_with fail;refine(Z<|mU 8 (by decide) (by decide) A {data:=#[41]} rfl<|iF R 2 (.slice Y B vc) an).mono ?_;rintro e w7⟨rfl,a,(z:Ze _)⟩;have c:=z.q (WN R)<|bS q 2<|.slice Y B vc;have y2:=bC c 2;simp[bQ]at y2;have aa:=Z c;have J:=Z<|(Z<|(Z<|I.trans P).l (p:=⟨w3.heap.size,2,none⟩) H.size<|.slice Y B vc).trans z;by_cases h5:5<B
 ·obtain ⟨r2,r3,rf⟩:=a.c;have HN:Ze<|dB D.tail=none:=by
   cases o with
   |true=>exact E rfl
   |false=>
    obtain⟨y,g2,g4,rfl⟩:=u.o rfl;have hs:bR dL D.tail.tail.tail.tail=k:=d.o;show dB D.tail=none;unfold dB fK;rw[VG y,VG g2,VG g4,hs];cases hb6:A with
    |true=>rw[F hb6]
    |false=>
     obtain⟨_,l,hl,_,r⟩:=x.o hb6;rw[hl];simp only;split
     .rfl
     rename_i l2 r2 h;split at h
     .simp at h;obtain⟨rfl,rfl⟩:=h;rw[VG<|by omega]
     cases h
  go_wp2;go_ret;refine⟨J.set _ _,_,rfl,?_⟩;rw[K,HN];exact⟨_,t,M,Z a.d⟩
 .have h:=Z a;go_wp2;go_ret;refine⟨J,_,rfl,?_⟩;have a:=h.o;rw[K];cases c:(!dh C 8 A)
  ·rw [c]at a;obtain⟨h1,h2,h3⟩:=gh c;obtain⟨y,l,hl,hI,ar⟩:=x.o h1;rw[h3]at a;subst y;have r:o=false:=by
    cases o with
    |false=>rfl
    |true=>have:=d.o;rw[VG rfl,hl]at this;cases this
   subst r;obtain⟨g1,g2,g4,rfl⟩:=u.o rfl;have aj:bR dL D.tail.tail.tail.tail=some (l,C):=by have:=d.o;rw[hl]at this;exact this
   have hn:dB D.tail=some (eM 99 (af D.tail.tail).s l .nil,C.tail):=by unfold dB fK;rw[VG g1,VG g2,VG g4,aj];simp only;rw[VG h2];simp only;rw[VF<|by omega]
   have hN:N=⟨(af D.tail.tail).s.toArray⟩:=by rw[<-ac,vL<|(kW _ _ _).2 ⟨rfl,g1⟩];simp[bG,gT,g2]
   rw[hn];refine⟨⟨w3.heap.size,.slice Y B vc,.slice none 0 0,.slice none 0 0,none,rfl,Q,?_,(hI.c q 2 _).d z<|by omega,jf,rfl,jf⟩,a⟩;have h9:=aa.o;rw[hN]at h9;simpa[bQ,eM]using h9
  rw[c]at a;have hn:dB D.tail=none:=by
   cases o with
   |true=>exact E rfl
   |false=>
    obtain⟨y,g2,g4,rfl⟩:=u.o rfl;have hs:bR dL D.tail.tail.tail.tail=k:=d.o;unfold dB fK;rw[VG y,VG g2,VG g4,hs];obtain r|⟨r,h2⟩:=iS c
    .rw[F r]
    obtain⟨_,l,hl,_,_⟩:=x.o r;rw[hl];simp only;rw[VF h2]
  rw[hn];exact⟨_,t,M,a⟩
def Hf{s:Y9}(hR:RT w n s D 0 false)(hk:(af D).k=28):
 Zc prog 75 #[qP n] w (rQ w n s<|aJ D):=by
 have aw:=hR.lt;have HF:=Z<|lh 5 rfl 5 false ((hR.alloc<|.cells (bQ 0 {data:=#[]} qN qN none qN false false 0 0) 111).alloc<|.cells #[.string {data:=#[67,82,69,65,84,69]},.string {data:=#[73,78,83,69,82,84]},.string {data:=#[68,69,76,69,84,69]},.string {data:=#[85,80,68,65,84,69]},.string {data:=#[83,69,76,69,67,84]}] 9) nP (by simp;omega) (by omega);have hf:Ze<|gL D false lC 0=3/\eQ D false lC=D.tail:=by simp[Ze,gL,eQ,lC,dh,hk]
 rw[hf.1,hf.2]at HF;simp only[WV,bQ]at HF;have ag:Ze<|aJ D=eA D.tail:=by simp[Ze,aJ,hk]
 go_in;go_wp2_with fail;apply qR HF;rintro w1⟨ao,al⟩;have HM:=Z<|uB false ao;go_wp2_with fail;apply qR HM;rintro X⟨R,am⟩;have K:=Z<|(Z<|(((aH.refl n w).alloc _).alloc _).trans al).trans am;have Q:=R.lt;have ar:=R.alloc<|.cells (bQ 117 (bG<|af D.tail) qN qN none qN false false 0 0) 111;have HO:=Z<|mU 29 (by decide) (by decide) _ {data:=#[83,69,84]} rfl ar;have ai:=aM X<|.cells (bQ 117 (bG<|af D.tail) qN qN none qN false false 0 0) 111;have ac:=Z ai;simp only[bQ]at HO;generalize ah:bG (af D.tail)=N at*;have ad:=Z ah;go_wp2_with fail;apply qR HO;rintro w5⟨ap,O⟩;have M:=O.q (by omega) ac;have L:=Z<|(K.alloc _).trans O;have U:∃Y d,RT w5 n s Y 0 d/\(d=false->(af D.tail).k=1/\(af D.tail.tail).k=29/\Y=D.tail.tail.tail)/\(d=true->eA D.tail=none):=by
  refine⟨_,_,ap,?_,?_⟩
  .intro h;obtain⟨y,r,x⟩:=gh h;obtain⟨_,h4,h5⟩:=gh y;rw[h5]at r x ⊢;exact⟨h4,r,x⟩
  intro h;unfold eA;obtain r|⟨r,y⟩:=iS h
  .obtain x|⟨_,x⟩:=iS r
   .cases x
   rw[VF x]
  obtain⟨_,x,h5⟩:=gh r;rw[h5]at y;rw[VG x,VF y]
 obtain⟨Y,d,S,C,B⟩:=U;have I:=Z C;have aa:=Z B;have HV:=Z<|OB (by omega) d (λ_=>rfl) S;generalize T:(if d=true then none else bR fh Y)=k at HV;have c:=Z T;have H:=Z M;go_wp2_with refine HV.mono ?_;rintro e w6⟨P,E,G,F,rfl,(HP:Ze _)⟩;have b:=P.q (by omega) H;have x2:=bC b;have xf:=bF b;have W:=K.size;have av:n<w5.heap.size:=by have:=L.size;omega
 have i:n≠X.heap.size:=by omega
 have V:∃u z g,RT w6 n s u z g/\z<=21/\(g=false->z=0)/\(g=false->∃l,k=some (l,u)/\e7 (w6.setCell ⟨X.heap.size,2,none⟩<|.slice E G F) n (n+1) l (.slice E G F))/\(g=true->k=none):=by
  have j:=HP.o;cases k with
  |none=>
   obtain⟨y,z,h1,r,x⟩:=j;exact⟨y,z,true,x,r,(λh=>by cases h),(λh=>by cases h),λ_=>rfl⟩
  |some y=>
   obtain⟨l,r⟩:=y;exact⟨r,0,false,j.2,by omega,(λ_=>rfl),(λ_=>⟨l,rfl,(j.1.base<|by omega).c b 2 _⟩),λh=>by cases h⟩
 obtain⟨u,z,g,aq,ak,(o:Ze _),C,B⟩:=V;have J:=Z C;have ab:=Z B;go_wp2_with refine(Z<|B6 g ak o<|iF i 2 (.slice E G F) aq).mono ?_;rintro e w7⟨(t:Ze _),a,rfl,(ae:Ze _)⟩;have A:=t.q (WN i)<|Z<|bS b 2<|.slice E G F;have x4:=bC A;have ax:=bF A;have q:=Z A;go_wp2;go_ret;refine⟨(Z<|(Z<|(Z<|L.trans P).l (p:=⟨X.heap.size,2,none⟩) W<|.slice E G F).trans t).l W _,_,rfl,?_⟩;have j:=ae.o;rw[ag];cases hv:MO g (bX u)with
 |none=>
  rw[hv]at j;obtain⟨t8,h,h1,y,h3⟩:=j;have hn:eA D.tail=none:=by
   cases d with
   |true=>exact aa rfl
   |false=>
    obtain⟨r,x,rfl⟩:=I.o rfl;have hs:bR fh D.tail.tail.tail=k:=c.o;unfold eA;rw[VG r,VG x,hs];cases g with
    |true=>rw[ab rfl]
    |false=>
     obtain⟨l,hl,_⟩:=J.o rfl;have:bX u=none:=hv;rw[hl];simp only;rw[this]
  rw[hn];exact⟨t8,h,y,iF i 4 _ h3⟩
 |some y=>
  obtain⟨x,r⟩:=y;rw[hv]at j;cases g with
  |true=>cases hv
  |false=>
   obtain⟨l,hl,hI⟩:=J.o (by first|rfl|trivial);have aj:z=0:=o.o (by first|rfl|trivial);subst aj;have h:d=false:=by
    cases d with
    |false=>rfl
    |true=>have:=c.o;rw[VG rfl,hl]at this;cases this
   subst h;obtain⟨g1,g2,rfl⟩:=I.o (by first|rfl|trivial);have an:bR fh D.tail.tail.tail=some (l,u):=by have:=c.o;rw[hl]at this;exact this
   have au:bX u=some (x,r):=hv;have hn:eA D.tail=some (eM 117 (af D.tail).s l x,r):=by unfold eA;rw[VG g1,VG g2,an];simp only;rw[au]
   have hN:N=⟨(af D.tail).s.toArray⟩:=by rw[<-ad];simp[bG,gT,g1]
   rw[hn];have h9:=bS q 4<|.pointer a;refine⟨⟨X.heap.size,.slice E G F,qN,qN,a,rfl,Q,?_,(hI.d t<|by omega).c q 4 _,jf,bz.c q 4 _ j.1,jf⟩,iF i 4 _ j.2⟩;rw[hN]at h9;simpa[bQ,eM]using h9
def U9(w wx:Za)(rb qb:Nat)(s:Y9)(T:YV)(d:Nat)(b:Bool)(vi vs vk:Zb)(vw:Y8)(dis all:Bool)(lim off:Int):Prop:=
 aH rb w wx/\RT wx rb s T d b/\d<=21/\(b=false->d=0)/\wx.heap[qb]?=some (.cells (bQ 115 {data:=#[]} vi vs vw vk dis all lim off) 111)
def isSlice(v:Zb):Prop:=∃a n c,v=.slice a n c
def bz.l{C:Y_}(b:w.heap[i]?=some (.cells C 151))(o:Nat)(u:Zb){v:Zb}(h:bz w k R v):bz (w.setCell ⟨i,o,none⟩ u) k R v:=
 h.nodes (λn D a=>by
  by_cases e:n=i
  .subst e;rw[b]at a;injection a with a;injection a with _ a _;exact absurd a<|by decide
  .exact bY a e _ _)
def e7.l{C:Y_}(j:w.heap[i]?=some (.cells C 151))(o:Nat)(u:Zb){d:Y3}{v:Zb}(h:e7 w n k d v):e7 (w.setCell ⟨i,o,none⟩ u) n k d v:=by
 obtain⟨l,⟨p,c⟩,q⟩:=h;refine⟨l,⟨p,?_⟩,q.mono λt v=>bz.l j o u⟩;obtain c|⟨g,cap,b,y,x,a,r⟩:=c
 .exact .inl c
 refine .inr ⟨g,cap,b,y,x,bY a (λe=>?_) _ _,r⟩;subst e;rw[j]at a;injection a with a;injection a with _ a _;exact absurd a<|by decide
def Ji(d:Nat)(s:Y9)(j:YV)(w:Za)(X:RT w d s j 0 false):
 Zc prog 127 #[.pointer<|some ⟨d,0,none⟩] w (rQ w d s<|ck j):=by
 have bb:=X.lt;have b:d≠w.heap.size:=by omega
 have l:=Z<|jd 31 (by decide) (by decide) false {data:=#[68,73,83,84,73,78,67,84]} rfl<|X.alloc<|.cells (bQ 115 {data:=#[]} (.slice none 0 0) (.slice none 0 0) none (.slice none 0 0) false false (-1) 0) 111;simp only[bQ]at l;clear X;go_in;go_wp2_with fail;refine l.mono ?_;rintro e w1⟨rfl,h,g⟩;have c:=g.q (WN b)<|Z<|aM w<|.cells (bQ 115 {data:=#[]} (.slice none 0 0) (.slice none 0 0) none (.slice none 0 0) false false (-1) 0) 111;have D:=bC c 6;have C:=bF c;simp[bQ]at D;have y:=Z<|(((aH.refl d w).alloc _).trans g).l (p:=⟨w.heap.size,6,none⟩) qZ<|.bool<|dh j 31 false;have r:=Z<|bS c 6<|.bool<|dh j 31 false;have x:=Z<|jd 17 (by decide) (by decide) false {data:=#[42]} rfl<|iF b 6 (.bool<|dh j 31 false) h;generalize a:dh j 31 false=i at*;generalize k:ff j 31 false=o at*;have O:=Z a;have z:=Z k;clear h g c l a k;go_wp2_with fail;refine x.mono ?_;rintro e w2⟨rfl,A,n⟩;have h:=n.q (WN b) r;have K:=bC h 7;have F:=bF h;simp[bQ]at K;have c:=Z<|(y.trans n).l (p:=⟨w.heap.size,7,none⟩) qZ<|.bool<|dh o 17 false;have l:=bS h 7<|.bool<|dh o 17 false;have q:=Z<|iF b 7 (.bool<|dh o 17 false) A;generalize k:dh o 17 false=all at*;generalize B:ff o 17 false=S at*;have u:=Z k;have t:=Z B;have ae:(((w2.setCell ⟨w.heap.size,7,none⟩<|.bool all)).heap[w.heap.size]?)=some (.cells (bQ 115 {data:=#[]} (.slice none 0 0) (.slice none 0 0) none (.slice none 0 0) i all (-1) 0) 111):=by simpa[bQ]using l
 have g:=Z ae;have L:=bC ae 7;simp[bQ]at L;clear A n h x r l k B y D C
 go_upto_if 24 with fail
 go_cut [] (λJ=>∃vi T3 d3 b3,isSlice vi/\Ze (U9 w J d w.heap.size s T3 d3 b3 vi (.slice none 0 0) (.slice none 0 0) none i all (-1) 0/\(b3=false->∃aD,eZ o=some ((all,aD),T3)/\e7 J d (d+1) aD vi)/\(b3=true->eZ o=none)))
 case first=>
  cases all
  .have h:(af o).k≠17:=by have:=u.o;simpa[dh]using this
   have C:S=o:=by rw[<-t];rw[ff,u];rfl
   have A:=Z C;have k:=Z h;have r:=Z<|DF (by omega) false (λ_=>rfl) q;generalize l:(if false=true then none else bR dc S)=G at r;have D:=Z l;have ae:=g.o;clear C h l;go_wp2_with fail;refine r.mono ?_;rintro e R⟨l,I,N,M,rfl,y⟩;have h:=l.q (WN b) g;have P:=bC h 2;have T:=bF h;simp[bQ]at P;have n:=Z h;have H:=Z y;have x:=Z<|c.trans l;clear l y h r;go_wp2;go_meet;have E:=H.o;have B:=bS n 2<|.slice I N M;have hs:bR dc o=G:=by have:=D.o;rw[A]at this;exact this
   cases G with
   |none=>
    obtain⟨y,l,Q,C,r⟩:=E;exact⟨_,y,l,true,⟨_,_,_,rfl⟩,⟨x.l qZ _,iF b 2 _ r,C,(λh=>by cases h),by simpa[bQ]using B⟩,(λh=>by cases h),λ_=>by rw[eZ,VF k.o,hs]⟩
   |some y=>
    obtain⟨l,r⟩:=y;exact⟨_,r,0,false,⟨_,_,_,rfl⟩,⟨x.l qZ _,iF b 2 _ E.2,by omega,(λ_=>rfl),by simpa[bQ]using B⟩,(λ_=>⟨l,by rw[eZ,VF k.o,hs],(E.1.base (by simp[size_set];have:=c.size;simp[size_set]at this;omega)).c n 2 _⟩),λh=>by cases h⟩
  have h:(af o).k=17:=by have:=u.o;simpa[dh]using this
  have n:S=o.tail:=by rw[<-t];rw[ff,u];rfl
  have l:=Z n;have k:=Z h;clear n h;go_wp2;go_meet;exact⟨_,S,0,false,⟨_,_,_,rfl⟩,⟨c,q,by omega,(λ_=>rfl),g⟩,(λ_=>⟨[],by rw[eZ,VG k.o,l],jf⟩),λh=>by cases h⟩
 case rest=>
  obtain⟨vi,T3,d3,b3,⟨H,I,k,rfl⟩,h⟩:=hcut;obtain⟨⟨A,B,av,(l:Ze _),(y:Ze _)⟩,(n:Ze _),(x:Ze _)⟩:=h.o;have r:=Z A;have HN:=Z<|mU 26 (by decide) (by decide) b3 {data:=#[70,82,79,77]} rfl B;clear A B h g q c L K F;go_wp2_with fail;refine HN.mono ?_;rintro e w4⟨rfl,A,g⟩;have L:=Z<|g.q (WN b) y;have G:=Z<|r.trans g;have P:∃T4 V,RT w4 d s T4 d3 V/\(V=false->d3=0)/\(V=false->∃aD,eZ o=some ((all,aD),T3)/\e7 w4 d (d+1) aD (.slice H I k)/\(af T3).k=26/\T4=T3.tail)/\(V=true->ck j=none)/\gF j=o/\((af j).k==31)=i:=by
   have M:((af j).k==31)=i:=by rw[<-O];unfold dh;simp
   have N:gF j=o:=by rw[<-z];unfold gF ff dh;simp
   refine⟨_,_,A,(λh=>l (gh h).1),?_,?_,N,M⟩
   .intro h;obtain⟨E,Q,h3⟩:=gh h;obtain⟨aD,h4,h5⟩:=n.o E;exact⟨aD,h4,h5.d g<|by omega,Q,h3⟩
   intro h;obtain E|⟨E,Q⟩:=iS h
   .exact uI<|N▸x E
   obtain⟨aD,h4,h5⟩:=n.o E;rw[po<|N▸h4];unfold kA;rw[VF Q]
  obtain⟨T4,V,c,(T:Ze _),(F:Ze _),(K:Ze _),a,q⟩:=P;have C:=Z<|G4 av V T c;generalize B:(if V=true then none else dn T4)=sp at C;have D:=Z B;have ai:=Z<|And.intro a q;have bc:d<w4.heap.size:=c.lt;clear A c g a q B HN n x l y r O z u t;go_wp2_with fail;refine C.mono ?_;rintro e w5⟨l,z,t,A,rfl,hp⟩;have c:=l.q (WN b) L;have z3:=bC c 3;have zf:=bF c;simp[bQ]at z3;have B:=Z c;have R:=Z hp;have u:=Z<|G.trans l;have n:=Z l;have a:(w5.setCell ⟨w.heap.size,3,none⟩<|.slice z t A).heap[w.heap.size]?=some (.cells (bQ 115 {data:=#[]} (.slice H I k) (.slice z t A) none (.slice none 0 0) i all (-1) 0) 111):=by simpa[bQ]using(bS c 3<|.slice z t A)
  have y3:=bC a 3;simp[bQ]at y3;have g:=Z a;clear l hp c a C;have P:∃T5 d5 b5,RT (w5.setCell ⟨w.heap.size,3,none⟩<|.slice z t A) d s T5 d5 b5/\d5<=21/\(b5=false->d5=0)/\(b5=false->∃aD bl,(ck j=if 3<bl.length then none else kR i all aD bl T5)/\e7 (w5.setCell ⟨w.heap.size,3,none⟩<|.slice z t A) d (d+1) aD (.slice H I k)/\e7 (w5.setCell ⟨w.heap.size,3,none⟩<|.slice z t A) d (d+1) bl (.slice z t A)/\t=bl.length)/\(b5=true->ck j=none):=by
   have E:=R.o;cases a:V with
   |true=>
    have hs:=D.o;rw[a,VG rfl]at hs;rw[<-hs]at E;obtain⟨M,O,N,r,y⟩:=E;exact⟨M,O,true,iF b 3 _ y,r,(λh=>by cases h),(λh=>by cases h),λ_=>K.o a⟩
   |false=>
    have hs:=D.o;rw[a,VF<|by simp]at hs;obtain⟨aD,N,Q,g3,g4⟩:=F.o a;subst g4;have M:ck j=mC i all aD sp:=by rw[po<|ai.1▸N,ai.2];unfold kA;rw[VG g3,hs]
    cases sp with
    |none=>
     obtain⟨t6,O,h1,r,y⟩:=E;exact⟨t6,O,true,iF b 3 _ y,r,(λh=>by cases h),(λh=>by cases h),λ_=>M⟩
    |some y=>
     obtain⟨bl,r⟩:=y;exact⟨r,d3,false,iF b 3 _ E.2,av,(λ_=>T a),(λ_=>⟨aD,bl,M,(Q.d n<|by omega).c B 3 _,(E.1.base<|by omega).c B 3 _,Df E.1⟩),λh=>by cases h⟩
  obtain⟨T5,d5,b5,c,aw,(l:Ze _),(q:Ze _),(x:Ze _)⟩:=P;have C:=Z c;have a5:=c.c;obtain⟨U,Y,a6⟩:=a5;clear c R F K D B n
  go_upto_if 42 with fail
  go_cut [] (λJ=>∃T6 O W,Ze<|U9 w J d w.heap.size s T6 O W (.slice H I k) (.slice z t A) (.slice none 0 0) none i all (-1) 0/\(W=false->∃aD bl,ck j=kR i all aD bl T6/\e7 J d (d+1) aD (.slice H I k)/\e7 J d (d+1) bl (.slice z t A))/\(W=true->ck j=none))
  case first=>
   by_cases y:3<t
   ·have HN:Ze<|ck j=none:=by
     cases a:b5 with
     |true=>exact x a
     |false=>
      obtain⟨aD,bl,c,_,_,r⟩:=q.o a;show ck j=none;rw[c,VG<|by omega]
    go_wp2;go_meet;exact⟨T5,d5,true,⟨(u.l qZ _).set _ _,C.d,aw,(λh=>by cases h),bY g.o (WN b) _ _⟩,(λh=>by cases h),λ_=>HN.o⟩
   go_wp2;go_meet
   exact ⟨T5,d5,b5,⟨u.l qZ _,C,aw,l,g⟩,(λh=>by
    obtain⟨aD,bl,c,r,a,B⟩:=q.o h
    exact⟨aD,bl,by rw[c,VF<|by omega],r,a⟩),x⟩
  obtain⟨T6,O,W,a⟩:=hcut;obtain⟨⟨(M:Ze _),h,ax,(c:Ze _),(aq:Ze _)⟩,(K:Ze _),(Q:Ze _)⟩:=a.o;have HW:=Z<|B6 W ax c h;clear h a C l q x g u L G U Y a6 y3 z3 zf;go_wp2_with fail;refine HW.mono ?_;rintro e w7⟨g,a,rfl,hp⟩;have l:=g.q (WN b) aq;have z4:=bC l 4;have zf:=bF l;simp[bQ]at z4;have B:=Z l;have R:=Z hp;have Y:=Z<|(M.trans g).l (p:=⟨w.heap.size,4,none⟩) qZ<|.pointer a;have G:=bS l 4<|.pointer a;have u:(w7.setCell ⟨w.heap.size,4,none⟩<|.pointer a).heap[w.heap.size]?=some (.cells (bQ 115 {data:=#[]} (.slice H I k) (.slice z t A) a (.slice none 0 0) i all (-1) 0) 111):=by simpa[bQ]using G
  have C:=Z u;have P:∃E d7 N,RT (w7.setCell ⟨w.heap.size,4,none⟩<|.pointer a) d s E d7 N/\d7<=21/\(N=false->d7=0)/\(N=false->∃aD bl D,(ck j=mE i all aD bl D (eT E))/\e7 (w7.setCell ⟨w.heap.size,4,none⟩<|.pointer a) d (d+1) aD (.slice H I k)/\e7 (w7.setCell ⟨w.heap.size,4,none⟩<|.pointer a) d (d+1) bl (.slice z t A)/\bz (w7.setCell ⟨w.heap.size,4,none⟩<|.pointer a) d D (.pointer a))/\(N=true->ck j=none):=by
   have hq:=R.o;cases hv:MO W (bX T6)with
   |none=>
    rw[hv]at hq;obtain⟨t8,d8,y,h2,h3⟩:=hq;refine⟨t8,d8,true,iF b 4 _ h3,h2,(λh=>by cases h),(λh=>by cases h),λ_=>?_⟩;cases r:W with
    |true=>exact Q r
    |false=>
     obtain⟨aD,bl,y,_,_⟩:=K.o r;rw[r]at hv;have x:bX T6=none:=hv;rw[y];rw[kR,x];rfl
   |some y=>
    obtain⟨x,r⟩:=y;rw[hv]at hq;cases hb:W with
    |true=>rw[hb]at hv;cases hv
    |false=>
     rw[hb]at hv;have a4:bX T6=some (x,r):=hv;obtain⟨aD,bl,h1,h2,h3⟩:=K.o hb;refine⟨r,O,false,iF b 4 _ hq.2,ax,(λ_=>c hb),(λ_=>⟨aD,bl,x,?_,(h2.d g<|by omega).c B 4 _,(h3.d g<|by omega).c B 4 _,bz.c B 4 _ hq.1⟩),λh=>by cases h⟩;rw[h1];rw[kR,a4];rfl
  obtain⟨E,d7,N,aC,a0,F,aA,aB⟩:=P;have U:=Z<|jd 36 (by decide) (by decide) N {data:=#[79,82,68,69,82]} rfl aC;have q:=Z F;have L:=Z aA;have an:=Z aB;clear aC F aA aB g l G u hp HW R B K Q c aq M;go_wp2_with fail;refine U.mono ?_;rintro e w8⟨rfl,g,c⟩;have Q:=Z<|c.q (WN b) C;have F:=Z<|Y.trans c;have n:=Z c;have R:=Z g;have bd:d<w8.heap.size:=g.lt;have ba:=F.size;generalize u:dh E 36 N=od at*;generalize l:ff E 36 N=T8 at*;have M:=Z u;have ac:=Z l;clear g c U C Y z4 zf u l
  go_upto_if 53 with fail
  go_cut [] (λJ=>∃vk c d9 B,isSlice vk/\Ze (U9 w J d w.heap.size s c d9 B (.slice H I k) (.slice z t A) vk a i all (-1) 0/\(B=false->∃aD bl D el,ck j=ik i all aD bl D el c/\e7 J d (d+1) aD (.slice H I k)/\e7 J d (d+1) bl (.slice z t A)/\bz J d D (.pointer a)/\e7 J d (d+1) el vk)/\(B=true->ck j=none)))
  case first=>
   cases od
   .go_wp2;go_meet;have l:T8=E:=by rw[<-ac];rw[ff,M];rfl
    subst l;refine⟨.slice none 0 0,T8,d7,N,⟨_,_,_,rfl⟩,⟨F,R,a0,q,Q⟩,(λh=>?_),an⟩;obtain⟨aD,bl,D,r,u,x,y⟩:=L.o h;have g:(af T8).k≠36:=λe=>by have:=(kW T8 36 N).2 ⟨h,e⟩;rw[M]at this;cases this
    refine⟨aD,bl,D,[],?_,u.d n<|by omega,x.d n<|by omega,y.d n,jf⟩;rw[r];rw[eT,VF g];rfl
   obtain⟨aY,g⟩:=(kW E 36 N).1 M;subst aY;have a3:T8=E.tail:=by rw[<-ac];exact vL M
   subst a3;have ay:d7=0:=q.o rfl;subst ay;have r:=Z<|mU 37 (by decide) (by decide) false {data:=#[66,89]} rfl R;have Y:=Z g;clear g M ac q;go_wp2_with fail;refine r.mono ?_;rintro e w9⟨rfl,x,g⟩;have aN:=Z<|g.q (WN b) Q;have aj:=Z<|F.trans g;have al:=Z<|n.trans g;have be:=aj.size;have l:=Z<|NH (by omega) _ (λ_=>rfl) x;generalize u:(!dh E.tail 37 false)=B at*;generalize y:ff E.tail 37 false=c at*;generalize h:(if B=true then none else bR gd c)=G at l;have ah:=Z u;have aT:=Z y;have K:=Z h;clear x g r u y h;go_wp2_with fail;refine l.mono ?_;rintro e wa⟨g,ka,kn,kc,rfl,r⟩;have h:=g.q (WN b) aN;have z5:=bC h 5;have bj:=bF h;simp[bQ]at z5;have x:=Z h;have aL:=Z r;have M:=Z<|aj.trans g;have u:=Z<|al.trans g;clear g r h l;go_wp2;go_meet;have a2:=bS x 5<|.slice ka kn kc;have C:(wa.setCell ⟨w.heap.size,5,none⟩<|.slice ka kn kc).heap[w.heap.size]?=some (.cells (bQ 115 {data:=#[]} (.slice H I k) (.slice z t A) a (.slice ka kn kc) i all (-1) 0) 111):=by simpa[bQ]using a2
   have hq:=aL.o;obtain⟨aD,bl,D,h1,h2,h3,h4⟩:=L.o (by first|rfl|trivial);have au:(B=false/\(af E.tail).k=37/\c=E.tail.tail)\/(B=true/\(af E.tail).k≠37):=by
    cases h:B with
    |false=>
     have:=ah.o;rw[h]at this;obtain⟨_,g,l⟩:=gh this;exact .inl ⟨rfl,g,by rw[<-aT];exact l⟩
    |true=>
     have:=ah.o;rw[h]at this;obtain g|⟨_,g⟩:=iS this
     .cases g
     exact .inr ⟨rfl,g⟩
   obtain⟨rfl,U,rfl⟩|⟨rfl,U⟩:=au
   .have hs:bR gd E.tail.tail=G:=K.o;have g:ck j=mE i all aD bl D G:=by rw[h1];rw[eT,VG Y.o,VG U,hs]
    cases G with
    |none=>
     obtain⟨y,O,q1,l,r⟩:=hq;exact⟨_,y,O,true,⟨_,_,_,rfl⟩,⟨M.l qZ _,iF b 5 _ r,l,(λh=>by cases h),C⟩,(λh=>by cases h),λ_=>g⟩
    |some y=>
     obtain⟨l,r⟩:=y;exact⟨_,r,0,false,⟨_,_,_,rfl⟩,⟨M.l qZ _,iF b 5 _ hq.2,by omega,(λ_=>rfl),C⟩,(λ_=>⟨aD,bl,D,l,g,(h2.d u<|by omega).c x 5 _,(h3.d u<|by omega).c x 5 _,bz.c x 5 _<|h4.d u,(hq.1.base<|by omega).c x 5 _⟩),λh=>by cases h⟩
   have hs:G=none:=K.symm;subst hs;obtain⟨r,O,y,g,l⟩:=hq;exact⟨_,r,O,true,⟨_,_,_,rfl⟩,⟨M.l qZ _,iF b 5 _ l,g,(λh=>by cases h),C⟩,(λh=>by cases h),λ_=>by rw[h1];rw[eT,VG Y.o,VF U];rfl⟩
  obtain⟨vk,c,d9,B,⟨ka,kn,kc,rfl⟩,h⟩:=hcut;obtain⟨⟨u,U,a1,g,K⟩,l,C⟩:=h.o;have aF:=Z u;have aO:=Z K;have y:=Z l;have G:=Z C;have r:=Z g;have x:=Z<|jd 39 (by decide) (by decide) B {data:=#[76,73,77,73,84]} rfl U;clear u U g K l C h R Q F n L an q;go_wp2_with fail;refine x.mono ?_;rintro e wa⟨rfl,l,g⟩;have ab:=Z<|g.q (WN b) aO;have C:=Z<|aF.trans g;have h:=Z g;have bf:d<wa.heap.size:=l.lt;have a9:=C.size;cases hlm:dh c 39 B
  .have n:ff c 39 B=c:=by rw[ff,hlm];rfl
   rw[n]at l;have q:=Z l;have u:=Z hlm;clear l g n x hlm;go_wp2;go_ret;refine⟨C,_,rfl,?_⟩;cases n:B with
   |true=>
    rw[G n];have:=q.o;rw[n]at this;exact⟨c,d9,a1,this⟩
   |false=>
    obtain⟨aD,bl,D,el,L,Q,R,U,Y⟩:=y.o n;have F:(af c).k≠39:=λe=>by have:=(kW c 39 B).2 ⟨n,e⟩;rw[u]at this;cases this
    have hl:dR c=some ((-1,0),c):=by rw[dR,VF F]
    have hn:ck j=some (⟨115,[],aD,bl,D,el,i,all,-1,0⟩,c):=by rw[L];rw[ik,hl]
    rw[hn];have K:=r.o n;have:=q.o;rw[n,K]at this;exact⟨⟨w.heap.size,_,_,_,_,rfl,by omega,ab,Q.d h<|by omega,R.d h<|by omega,U.d h,Y.d h<|by omega⟩,this⟩
  obtain⟨aZ,n⟩:=(kW c 39 B).1 hlm;subst aZ;have u:ff c 39 false=c.tail:=vL hlm;have az:d9=0:=r.o rfl;subst az;rw[u]at l;obtain⟨aD,bl,D,el,q,F,K,L,R⟩:=y.o rfl;have H1:=Z q;have HI:=Z<|And.intro (F.d g<|by omega)<|And.intro (K.d g<|by omega)<|And.intro (L.d g)<|R.d g (by omega);have Q:=Z n;have HO:=Z<|Vg 2 110 (.inr ⟨rfl,rfl⟩) false l;clear l g u x hlm q F K L R n r y G h;go_wp2_with fail;refine HO.mono ?_;rintro e wb⟨rfl,r,h⟩;have g:=h.q (WN b) ab;have z8:=bC g 8;have bh:=bF g;simp[bQ]at z8;have aP:=Z g;have aa:=Z<|C.trans h;have q:=Z<|And.intro (HI.1.d h<|by omega)<|And.intro (HI.2.1.d h<|by omega)<|And.intro (HI.2.2.1.d h)<|HI.2.2.2.d h (by omega);have bg:d<wb.heap.size:=r.lt;have a_:=aa.size;have a7:w.heap.size<wb.heap.size:=lB g;generalize ad:gj (af c.tail)=n at*;have am:=Z ad;have aE:=(iF b 8 (.int .i64 n) r).alloc<|.cells #[.int .u8<|cA (af c.tail).k,.string<|bG<|af c.tail,.int .i64 n] 151;have L:=Z<|jd 40 (by decide) (by decide) _ {data:=#[79,70,70,83,69,84]} rfl aE;have G:(wb.setCell ⟨w.heap.size,8,none⟩<|.int .i64 n).heap[w.heap.size]?=some (.cells (bQ 115 {data:=#[]} (.slice H I k) (.slice z t A) a (.slice ka kn kc) i all n 0) 111):=by have:=bS g 8<|.int .i64 n;simpa[bQ]using this
  have aQ:=Z<|bA G<|.cells #[.int .u8<|cA (af c.tail).k,.string<|bG<|af c.tail,.int .i64 n] 151;have aG:=Z<|(aa.l (p:=⟨w.heap.size,8,none⟩) qZ<|.int .i64 n).alloc<|.cells #[.int .u8<|cA (af c.tail).k,.string<|bG<|af c.tail,.int .i64 n] 151;have y:=(aH.refl d<|wb.setCell ⟨w.heap.size,8,none⟩<|.int .i64 n).alloc<|.cells #[.int .u8<|cA (af c.tail).k,.string<|bG<|af c.tail,.int .i64 n] 151;have R:=Z<|And.intro ((q.1.c g 8<|.int .i64 n).d y<|by omega)<|And.intro ((q.2.1.c g 8<|.int .i64 n).d y<|by omega)<|And.intro ((bz.c g 8 (.int .i64 n) q.2.2.1).d y)<|(q.2.2.2.c g 8<|.int .i64 n).d y (by omega);have aU:=Z<|iL (wb.setCell ⟨w.heap.size,8,none⟩<|.int .i64 n) (.cells #[.int .u8<|cA (af c.tail).k,.string<|bG<|af c.tail,.int .i64 n] 151) (size_set _ _ _).symm;rw[fr,ad];generalize cA (af c.tail).k=K1 at*;generalize bG (af c.tail)=B1 at*;generalize F:(!dh c.tail 2 false)=x at*;generalize Y:ff c.tail 2 false=l at*;have K:=Z F;have U:=Z Y;clear r h g aE G y F Y ad HO HI q ab aP C aa;go_wp2_with fail;refine L.mono ?_;rintro e wd⟨rfl,G,q⟩;have ar:=Z<|q.q (WN b) aQ;have ak:=Z<|aG.trans q;have r:=Z<|And.intro (R.1.d q<|by omega)<|And.intro (R.2.1.d q<|by omega)<|And.intro (R.2.2.1.d q)<|R.2.2.2.d q (by omega);have aV:=Z<|q.q (by omega) aU;have y:x=false->(af c.tail).k=2/\l=c.tail.tail/\n=(af c.tail).n:=λh=>by have:=K.o;rw[h]at this;obtain⟨_,g,g2⟩:=gh this;exact⟨g,by rw[<-U];exact g2,by rw[<-am];rw[gj,VG g]⟩
  have C:x=true->dR c=none:=λh=>by
   have:=K.o;rw[h]at this;obtain g|⟨_,g⟩:=iS this
   .cases g
   rw[dR,VG Q.o,VF g]
  have Y:=Z y;have ao:=Z C;cases hof:dh l 40 x
  .have u:ff l 40 x=l:=by rw[ff,hof];rfl
   rw[u]at G;have g:=Z G;have aK:=Z hof;clear G q u L hof y C;go_wp2;go_ret;refine⟨ak,_,rfl,?_⟩;cases hb:x with
   |true=>
    have hn:ck j=none:=by rw[H1];rw[ik,ao hb]
    rw[hn];have:=g.o;rw[hb]at this;exact⟨l,0,by omega,this⟩
   |false=>
    obtain⟨g1,g2,g3⟩:=Y.o hb;subst g2;have aX:(af c.tail.tail).k≠40:=λe=>by have:=(kW c.tail.tail 40 x).2 ⟨hb,e⟩;rw[aK]at this;cases this
    have hl:dR c=some ((n,0),c.tail.tail):=by rw[dR,VG Q.o,VG g1,VF aX,g3]
    have hn:ck j=some (⟨115,[],aD,bl,D,el,i,all,n,0⟩,c.tail.tail):=by rw[H1];rw[ik,hl]
    rw[hn];have:=g.o;rw[hb]at this;exact⟨⟨w.heap.size,_,_,_,_,rfl,by omega,ar,r.1,r.2.1,r.2.2.1,r.2.2.2⟩,this⟩
  obtain⟨F,g⟩:=(kW l 40 x).1 hof;subst F;have u:ff l 40 false=l.tail:=vL hof;rw[u]at G;obtain⟨g1,g2,g3⟩:=Y.o rfl;have HG:=Z<|And.intro g1<|And.intro g2 g3;have ag:=Z g;have ap:=Z<|Vg 2 110 (.inr ⟨rfl,rfl⟩) false G;clear G q u L hof y C g1 g2 g3 g Y ao K U am;go_wp2_with fail;refine ap.mono ?_;rintro e we⟨rfl,L,g⟩;have C:=g.q (WN b) ar;have q:=g.q (by omega) aV;have z9:=bC C 9;have bi:=bF C;have u0:=bC q 0;have u1:=bC q 1;have u2:=bC q 2;have uf:=bF q;simp[bQ]at z9;simp at u0 u1 u2;have⟨G,a8⟩:¬w.heap.size=wb.heap.size/\¬wb.heap.size=w.heap.size:=by omega
  rw[fr];generalize y:gj (af l.tail)=K at*;generalize cA (af l.tail).k=K2 at*;generalize bG (af l.tail)=Y at*;have aJ:=Z y;have aR:=Z C;have aW:=Z q;have aS:=Z L;have aI:=Z<|ak.trans g;have u:=Z<|And.intro (r.1.d g<|by omega)<|And.intro (r.2.1.d g<|by omega)<|And.intro (r.2.2.1.d g)<|r.2.2.2.d g (by omega);clear C q L g y ap;go_wp2;go_ret;have q:d≠wb.heap.size:=by omega
  have L:=aW.o;have o:=bS L 0<|.int .u8 K2;have S:=bS o 1<|.string Y;have C:=bY (bY (bY aR G 0<|.int .u8 K2) G 1<|.string Y) G 2<|.int .i64 K;have q4:=bS C 9<|.int .i64 K;have X:=iF b 9 (.int .i64 K)<|iF q 2 (.int .i64 K)<|iF q 1 (.string Y)<|iF q 0 (.int .u8 K2) aS;refine⟨(((aI.l (by omega) _).l (by omega) _).l (by omega) _).l qZ _,_,rfl,?_⟩;obtain⟨g1,g2,g3⟩:=HG.o;subst g2;cases U:(!dh c.tail.tail.tail 2 false)with
  |true=>
   have hl:dR c=none:=by
    obtain g|⟨_,g⟩:=iS U
    .cases g
    rw[dR,VG Q.o,VG g1,VG ag.o,VF g]
   have hn:ck j=none:=by rw[H1];rw[ik,hl]
   rw[hn];rw[U]at X;exact⟨_,0,by omega,X⟩
  |false=>
   obtain⟨_,g,g5⟩:=gh U;have y:K=(af c.tail.tail.tail).n:=by rw[<-aJ];rw[gj,VG g]
   have hl:dR c=some ((n,K),c.tail.tail.tail.tail):=by rw[dR,VG Q.o,VG g1,VG ag.o,VG g,g3,y]
   have hn:ck j=some (⟨115,[],aD,bl,D,el,i,all,n,K⟩,c.tail.tail.tail.tail):=by rw[H1];rw[ik,hl]
   rw[hn];rw[U,g5]at X;refine⟨⟨w.heap.size,.slice H I k,.slice z t A,.slice ka kn kc,a,rfl,by omega,by simpa[bQ]using q4,?_,?_,?_,?_⟩,X⟩
   .exact(((u.1.l L 0 _).l o 1 _).l S 2 _).c C 9 _
   .exact(((u.2.1.l L 0 _).l o 1 _).l S 2 _).c C 9 _
   .exact bz.c C 9 _<|bz.l S 2 _<|bz.l o 1 _<|bz.l L 0 _ u.2.2.1
   exact(((u.2.2.2.l L 0 _).l o 1 _).l S 2 _).c C 9 _
def He{s:Y9}(i:RT w n s D 0 false)(k:(af D).k=30):
 Zc prog 75 #[qP n] w (rQ w n s<|aJ D):=by
 have o:=i.lt;have b:=Z<|lh 5 rfl 5 false ((i.alloc<|.cells (bQ 0 {data:=#[]} qN qN none qN false false 0 0) 111).alloc<|.cells #[.string {data:=#[67,82,69,65,84,69]},.string {data:=#[73,78,83,69,82,84]},.string {data:=#[68,69,76,69,84,69]},.string {data:=#[85,80,68,65,84,69]},.string {data:=#[83,69,76,69,67,84]}] 9) nP (by simp;omega) (by omega);have j:Ze<|gL D false lC 0=4/\eQ D false lC=D.tail:=by simp[Ze,gL,eQ,lC,dh,k]
 rw[j.1,j.2]at b;simp only[WV,bQ]at b;have c:Ze<|aJ D=ck D.tail:=by simp[Ze,aJ,k]
 go_in;go_wp2_with fail;apply qR b;rintro p⟨h,d⟩;go_wp2_with apply(Z<|Ji n s D.tail p h).mono;rintro e q⟨g,a,rfl,l⟩;go_wp2;go_ret;exact⟨(Z<|(((aH.refl n w).alloc _).alloc _).trans d).trans g,a,rfl,by rw[c];exact l⟩
def L6{s:Y9}(e:RT w n s D 0 false)(h:(af D).k≠20/\(af D).k≠22/\(af D).k≠25/\(af D).k≠28/\(af D).k≠30):
 Zc prog 75 #[qP n] w (rQ w n s<|aJ D):=by
 have i:=e.lt;have b:=Z<|lh 5 rfl 5 false ((e.alloc<|.cells (bQ 0 {data:=#[]} qN qN none qN false false 0 0) 111).alloc<|.cells #[.string {data:=#[67,82,69,65,84,69]},.string {data:=#[73,78,83,69,82,84]},.string {data:=#[68,69,76,69,84,69]},.string {data:=#[85,80,68,65,84,69]},.string {data:=#[83,69,76,69,67,84]}] 9) nP (by simp;omega) (by omega);have g:Ze<|gL D false lC 0=-1/\eQ D false lC=D:=by simp[Ze,gL,eQ,lC,dh,h]
 rw[g.1,g.2]at b;simp only[WV,bQ]at b;have c:Ze<|aJ D=none:=by simp[Ze,aJ,h]
 go_in;go_wp2_with fail;apply qR b;rintro l⟨a,d⟩;obtain⟨j,k,rf⟩:=a.c;go_wp2;go_ret;exact⟨(Z<|(((aH.refl n w).alloc _).alloc _).trans d).set _ _,_,rfl,by rw[c];exact⟨_,0,by omega,Z a.d⟩⟩
def BV(c:Nat)(s:Y9)(a:YV)(w:Za)(b:RT w c s a 0 false):
 Zc prog 75 #[qP c] w (rQ w c s<|aJ a):=by
 by_cases d:(af a).k=20
 .exact Hb b d
 by_cases e:(af a).k=22
 .exact Hd b e
 by_cases g:(af a).k=25
 .exact Hc b g
 by_cases h:(af a).k=28
 .exact Hf b h
 by_cases i:(af a).k=30
 .exact He b i
 exact L6 b ⟨d,e,g,h,i⟩
def Tc.d{c:aX}{a:Y8}(b:aH n w W)(h:Tc w n c a):Tc W n c a:=by obtain⟨p,o,r,q,t,d,e,g,i,j,k,l⟩:=h;exact⟨p,o,r,q,t,d,e,b.q (by omega) g,i.d b<|by omega,j.d b<|by omega,k.d b,l.d b<|by omega⟩
def Oq(k:Nat):(cA k != 101)=!(k==0):=by
 unfold cA;repeat' split
 all_goals (simp;try omega)
def Tp(w:Za)(l:YX)(e:Zg)(w':Za):Prop:=
 qB w w'/\∃a:Y8,e=.returned (.pointer a)/\match bp l with
  |some st=>∃rb,w.heap.size<=rb/\Tc w' rb st a
  |none=>a=none
def pQ(s:Y9)(w:Za)(N:s.size<=1048576):
 Zc prog 47 #[.string s] w (Tp w s.data.toList):=by
 by_cases g:600<s.size
 ·have a:Ze<|bp s.data.toList=none:=by
   show bp s.data.toList=none;rw[bp,VG<|by simpa using g]
  go_in;go_wp2;go_ret;exact⟨qW,none,rfl,by rw[a]⟩
 ·have U:RT (w.alloc<|.cells #[.string s,qI 0,qI 0,.bool false] 148) w.heap.size s (de s.data.toList) 0 false:=⟨0,by omega,N,aM w _,by rw[qm]⟩;have Q:=Z<|BV w.heap.size s _ _ U;have l:Ze<|bp s.data.toList=kK (aJ<|de s.data.toList):=by
   show bp s.data.toList=_;rw[bp,VF<|by simpa using g]
  go_in;go_wp2_with refine Q.mono ?_;rintro e O⟨G,a,rfl,z⟩;have K:∃T d b,RT O w.heap.size s T d b/\(b=false->∃i,aJ (de s.data.toList)=some (i,T)/\Tc O w.heap.size i a)/\(b=true->aJ (de s.data.toList)=none):=by
   cases hv:aJ (de s.data.toList)with
   |none=>
    rw[hv]at z;obtain⟨t,d,_,h⟩:=z;exact⟨t,d,true,h,(λh=>by cases h),λ_=>rfl⟩
   |some y=>
    obtain⟨i,r⟩:=y;rw[hv]at z;exact⟨r,0,false,z.2,(λ_=>⟨i,rfl,z.1⟩),λh=>by cases h⟩
  obtain⟨T,d,b,J,V,W⟩:=K;have M:=Z V;have S:=Z W;have R:=Z<|jd 11 (by decide) (by decide) b {data:=#[59]} rfl J;have C:=Z<|((aH.refl w.heap.size<|w.alloc<|.cells #[.string s,qI 0,qI 0,.bool false] 148)).trans G;go_wp2_with fail;apply qR R;rintro P⟨⟨p,I,_,n,L⟩,(u:Ze _)⟩;obtain⟨g0,g1,g2,g3,gf⟩:=n.c;have E:=Z L;have o:=Z<|C.trans u;have D:=Z n;have H:=lB n;go_wp2_with apply(xi s I N).mono;rintro e B⟨q,rfl,X,Y,hq,(c:Ze _)⟩;have A:RS B w.heap.size s p d b:=bB c H D;obtain⟨k0,k1,k2,k3,kf⟩:=A.c;rw[fr];have x:=ll<|aq s p;rw[E]at x;rw[<-x];have hz:P.heap.size<=B.heap.size:=c.size;have F:qB w B:=by have h:=o.o;have r:qB w P:=((VM w.heap.size w).alloc qZ _).trans ⟨h.os,h.tape,h.output,h.size,λk hk=>h.block k (by simp;omega)<|by omega⟩;exact r.trans<|c.mono (by have:=o.size;simp at this;omega)
  have aa:w.heap.size<B.heap.size:=by omega
  have j:=Z F;cases b
  .have k:ff T 11 false=iT T:=by unfold ff iT dh;simp
   rw[k];cases he:((af<|iT T).k==0)
   .have t:(cA (af<|iT T).k != 101)=true:=by rw[Oq,he];rfl
    have h:Ze<|bp s.data.toList=none:=by obtain⟨i,r,_⟩:=M.o rfl;show bp s.data.toList=none;rw[l,r];unfold kK;simp only;rw[VF<|by simpa using he]
    go_wp2;go_ret;exact⟨j.alloc (by omega) _,none,rfl,by rw[h]⟩
   have y:(cA (af<|iT T).k != 101)=false:=by rw[Oq,he];rfl
   obtain⟨i,r,t⟩:=M.o rfl;have h:Ze<|bp s.data.toList=some i:=by show bp s.data.toList=some i;rw[l,r];unfold kK;simp only;rw[VG<|by simpa using he]
   go_wp2;go_ret;exact⟨j.alloc (by omega) _,a,rfl,by rw[h];exact⟨w.heap.size,qZ,Z<|t.d<|(u.below c).alloc<|.cells #[.int .u8<|cA (af<|iT T).k,.string<|bG<|af<|iT T,qI<|gj<|af<|iT T] 151⟩⟩
  have h:Ze<|bp s.data.toList=none:=by show bp s.data.toList=none;rw[l,S rfl];rfl
  go_wp2;go_ret;exact⟨j.alloc (by omega) _,none,rfl,by rw[h]⟩
