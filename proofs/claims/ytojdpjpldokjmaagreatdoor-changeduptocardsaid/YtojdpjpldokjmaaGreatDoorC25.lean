import Derived.Maps.Own
import Derived.Maps.OwnOps
import Derived.Maps.Views
import Derived.Test.YtojdpjpldokjmaaGreatDoorC24
set_option maxHeartbeats 0
set_option maxRecDepth 100000
set_option linter.all false
namespace Go.Proofs.YtojdpjpldokjmaaGreatDoor
open Go.Deep Go.Maps Go.RowKit Go.WideMaps Tryz
open Go renaming World->Za,Value->Zb,maxLen->Zj
variable{N O:List YW}{I J:YW}{W w x:World}{i j n:Nat}{o p:YZ}{a:Int}{u:Value}
def F4{v:ai}(h:dv v):(qt v).length<=150:=by
 have a:=Lib.itoa_length_le v.aC (by have:=h.aC;omega) (by have:=h.aC;omega);have b:=Lib.itoa_length_le v.n h.range.1 h.range.2;have d:v.s.length<=40:=by obtain⟨_,_,h⟩|⟨_,h,_⟩|⟨_,_,h⟩|⟨_,_,h⟩:=h<;>simp[h]
 have c:=Lib.itoa_length_le (v.s.length:Int) (by omega) (by omega);simp[qt];omega
def y8:∀{row:YW},gY row->(gE row).length<=row.length*150
 |[],_=>by simp[gE]
 |v::row,h=>by have c:=F4<|h v (by simp);have a:=y8 (row:=row) λx b=>h x (by simp[b]);unfold gE at a ⊢;rw[Xc,VH,Wk];omega
def Ct(h:I∈N):fq N (I::O)=fq N O:=by rw[fq,VG<|Ys.2 ⟨I,h,(oD _ _).2 rfl⟩]
def Cu(h:I ∉ N):fq N (I::O)=I::fq (N++[I]) O:=by
 rw [fq,VF (λe=>by
  obtain⟨x,a,e⟩:=Ys.1 e
  exact h<|(oD _ _).1 e▸a)]
def P3:Keyed prog 9:=string_keyed underlying9
def O9:(zeroValue 3).run prog w=.ok (qI 0) w:=by kernel_rfl
def kl(r:YW):Lit:=.string<|gE r
def Sk(h:gY I)(a:I.length<=1000):keyOf prog 9 (.string ⟨(gE I).toArray⟩)=some (kl I):=by have:=keyOf_string_mk (P:=prog) underlying9 (s:=⟨(gE I).toArray⟩) (by have:=y8 h;unfold Zj;show(gE I).toArray.size<=_;simp;omega);simpa[kl]using this
def Sl(h:kl I=kl J):I=J:=by unfold kl at h;injection h with h;exact Bf h
def xw{k:TypeId}{R:Zb->Option (DataW Unit×List MemPlace)}{D:DataW Unit}(h:w.ownsMap prog k R i n D)(e:W.heap[i]?=w.heap[i]?):W.ownsMap prog k R i n D:=by obtain⟨a,c,b,d⟩:=h;exact⟨a,c,e.trans b,d⟩
def vD{k:TypeId}{R:Zb->Option (DataW Unit×List MemPlace)}{D:DataW Unit}(h:w.ownsMap prog k R i n D):i<w.heap.size:=by obtain⟨b,c,a,d⟩:=h;exact lB a
structure TI(w W:Za)(qs:YZ)(i:Nat)(rs:YZ)(v:Zb)(D:DataW Unit):Prop where
 d:qB w W
 map:W.ownsMap prog 9 (plainElem (H:=Unit) prog 3) w.heap.size i D
 own:W.ownsRow (w.heap.size+1) 32 1 v rs.length<|df rs
 sub:rs.Sublist<|qs.take i
 eq:j8 (qs.map (·.1))=rs.map (·.1)++fq (rs.map (·.1)) ((qs.drop i).map (·.1))
 a:∀q∈qs,∃c:Int,D.atKey (kl q.1) (.lit<|.int .i64 0)=.lit (.int .i64 c)/\0<=c/\c<=i/\(0<c↔q.1∈rs.map (·.1))
def TI.none(w:Za)(a:YZ):TI w (w.alloc<|.map #[] 0) a 0 [] qN<|.map []:=
 ⟨qA,Za.ownsMap_made _ _ _ _,VP _ _ _ _,by simp,by simp[j8],λq _=>⟨0,rfl,by omega,by omega,by simp⟩⟩
def TI.below{i:Nat}{v:Zb}{D:DataW Unit}(h:TI w W o i p v D)(a:qB W x):TI w x o i p v D:=
 ⟨h.d.trans<|a.mono h.d.size,xw h.map<|a.block _<|vD h.map,aB a h.own,h.sub,h.eq,h.a⟩
def TI.counts{g c:YZ}{v:Zb}{D:DataW Unit}(h:TI w W o i g v D){q:au}(C:D.atKey (kl q.1) (.lit<|.int .i64 0)=.lit (.int .i64 a))(A:0<=a)(E:a<=i)(t:q.1∈c.map (·.1))(u:∀x,x≠q.1->(x∈c.map (·.1)↔x∈g.map (·.1))):
 ∀p∈o,∃d:Int,(D.put (kl q.1)<|.lit<|.int .i64<|a+1).atKey (kl p.1) (.lit<|.int .i64 0)=.lit (.int .i64 d)/\0<=d/\d<=((i+1:Nat):Int)/\(0<d↔p.1∈c.map (·.1)):=λp r=>by
 have n:IsMap D:=by obtain⟨z,y,_,_,_,e⟩:=h.map;exact⟨_,e⟩
 by_cases b:p.1=q.1
 .rw[b];exact⟨a+1,atKey_put_same n (by unfold kl;trivial) _ _,by omega,by omega,by simp[t];omega⟩
 .obtain⟨d,j,k,B,l⟩:=h.a p r;refine⟨d,?_,k,by omega,?_⟩
  .rw[atKey_put_other λe=>b<|Sl e];exact j
  rw[u _ b];exact l
def TI.met{g:Za}{v:Zb}{D:DataW Unit}(h:TI w W o i p v D){q:au}(u:o[i]?=some q)(n:D.atKey (kl q.1) (.lit<|.int .i64 0)=.lit (.int .i64 a))(C:0<a)(F:a<=i)
 (E:g.ownsMap prog 9 (plainElem (H:=Unit) prog 3) w.heap.size (i+1)<|D.put (kl q.1)<|.lit<|.int .i64<|a+1) (r:W.grownBy g<|some w.heap.size):TI w g o (i+1) p v<|D.put (kl q.1)<|.lit<|.int .i64<|a+1:=by
 have c:=VY u;obtain⟨y,l,z,A,B⟩:=h.a q c;have j:y=a:=by rw[n]at l;injection l with e;injection e with _ e;exact e.symm
 subst j;have b:=B.1 C;obtain⟨t,d⟩:=VZ.1 u;have hd:o.drop i=q::o.drop (i+1):=by rw[VJ t,d]
 refine⟨a_ h.d r (λk hk=>by injection hk with hk;omega) h.d.size,E,?_,h.sub.trans (by rw[show o.take (i+1)=o.take i++[q] by rw[<-d];exact(XS t).symm];exact List.sublist_append_left _ _),?_,h.counts n z A b λx _=>Iff.rfl⟩
 .exact cN h.own λk hk=>r.block k (h.own.lt k hk).2 (λe=>by injection e with e;have:=(h.own.lt k hk).1;omega)
 .rw[h.eq,hd,We,Ct b]
def TI.new{b t:Za}{v:Zb}{D:DataW Unit}(h:TI w W o i p v D){q:au}(F:o[i]?=some q)(B:D.atKey (kl q.1) (.lit<|.int .i64 0)=.lit (.int .i64 0))
 (E:b.ownsMap prog 9 (plainElem (H:=Unit) prog 3) w.heap.size (i+1)<|D.put (kl q.1)<|.lit<|.int .i64<|0+1)(J:W.grownBy b<|some w.heap.size){c:Za}(r:Below b.heap.size b c)(l:t.ownsRow (w.heap.size+1) 32 1 u (p.length+1)<|df p++[q.2])(d:c.grownBy t v.ownBlock):
 TI w t o (i+1) (p++[q]) u (D.put (kl q.1)<|.lit<|.int .i64<|0+1):=by
 have j:=VY F;obtain⟨G,A,L,M,I⟩:=h.a q j;have y:G=0:=by rw[B]at A;injection A with e;injection e with _ e;exact e.symm
 subst y;have z:q.1 ∉ p.map (·.1):=λe=>by have:=I.2 e;omega
 obtain⟨C,n⟩:=VZ.1 F;have hd:o.drop i=q::o.drop (i+1):=by rw[VJ C,n]
 have a:qB w b:=a_ h.d J (λk hk=>by injection hk with hk;omega) h.d.size;have g:=vD E;refine⟨a_ (a.trans<|r.mono a.size) d (λk hk=>by have:=(h.own.lt k hk).1;omega)<|Wf a.size r.size,?_,by simpa[df]using l,?_,?_,h.counts B (by omega) (by omega) (by simp) λx K=>by simp[K]⟩
 .refine xw E ?_;rw[d.block _ (VT g r.size) (λe=>by have:=(h.own.lt _ e.symm).1;omega)];exact r.block _ g
 .rw[show o.take (i+1)=o.take i++[q] by rw[<-n];exact(XS C).symm];exact h.sub.append_right [q]
 .rw[h.eq,hd,We,Cu z];simp
def CK(X:DK){v:Zb}(hp:kO w)(B:w.ownsRow j 32 1 v o.length<|df o)(x:fP w j o)(hl:o.length<=20000)(H:∀q∈o,q.1.length<=1000/\gY q.1):
 Calls prog 114 #[v] w λe T=>qB w T/\∃d u,e=.returned u/\d.map (·.1)=j8 (o.map (·.1))/\d.Sublist o/\T.ownsRow w.heap.size 32 1 u d.length (df d):=by
 have HM:=Z<|qy B x.rows;have L:=Z H;have K:Hid (∀(W:Za) (q:au),q∈o->qB w W->Calls prog 177 #[q.2] W λe T=>e=.returned (.string ⟨(gE q.1).toArray⟩)/\qB W T):=λW q Q hb=>
  Qs X ((x.rows q Q).below hb) (H q Q).2 (H q Q).1 (hp.aL<|hb.block _ hp.lt)
 obtain⟨i0,hi,ad,ae,af⟩:=V5 iN;have l:=Z<|And.intro hi<|And.intro ad<|And.intro ae af;have Y:Hid (∀q∈o,∃a n c,q.2=.slice a n c):=λq Q=>aF<|x.1 q Q;have aa:=Z<|TI.none w o;obtain⟨va,vc,rfl⟩:=bN B;have ap:=@run_makeMap prog;go_in;go_wp2;go_step3;go_wp2;go_step3;go_wp2
 go_loopw [4,11] (λs4 aj wr=>∃(i:Nat) (d:YZ) (D:DataW Unit),i<=o.length/\aj=.int .i64 (i:Nat)/\d.length<=i/\Hid (TI w wr o i d s4 D)) (λ_ a _=>o.length-(intOf a).toNat)
 exact⟨0,[],_,qO,rfl,qZ,aa⟩
 case round=>
  obtain⟨i,d,D,hi,rfl,aq,J⟩:=hrel;obtain⟨sa,sc,rfl⟩:=bN J.own;have E:=J.d;by_cases P:i<o.length
  ·have U:Hid<|o[i]?=some o[i]:=VE P;have b:=Z<|VQ P;generalize o[i]=q at*;obtain⟨g,cap,he,hg,d0⟩:=(HM.1.aL λk hk=>E.block k hk).c U;cases he;have ao:g<wr.heap.size:=VT hg E.size;obtain⟨qa,qn,qc,R⟩:=Y.o q b;have HC:=Z<|K wr q b E;rw[R]at HC d0;obtain⟨c,hc,am,ac,an⟩:=J.a q b;have ag:=Sk (L q b).2 (L q b).1;have C:=Z hc;have y:=Z ag;have V:=Z R;generalize (⟨(gE q.1).toArray⟩:Y9)=ks at*;go_wp2_with fail;refine HC.mono ?_;rintro e w2⟨rfl,ab⟩;have r:=Z<|J.below ab;have G:=r.map;have z:Hid<|(D.put (kl q.1)<|.lit<|.int .i64<|c+1).atKey (kl q.1) (.lit<|.int .i64 0)=.lit (.int .i64<|c+1):=by
    obtain⟨A,p,_,_,_,e⟩:=G;exact atKey_put_same ⟨_,e⟩ (by unfold kl;trivial) _ _
   go_wp2_with (first
    |(at_lookup;refine wpList_lookup_own_int _ rfl _ _ 292 rfl 9 3 .i64 P3 underlying292 underlying3 O9 w.heap.size i _ rfl G _ _ rfl y ?_;intro c1 N ar;obtain rfl:c=c1:=by(rw[C]at N;injection N with h;injection h with _ h))
    |(at_mapUpdate;refine wpList_mapUpdate_own _ rfl _ _ _ 292 rfl 9 3 P3 underlying292 _ w.heap.size i _ rfl G (by unfold Zj;omega) _ _ _ rfl rfl y _ [] (plainElem_int underlying3<|WalkArith.wf_i64<|by omega) ?_))
   intro w3 t F;by_cases h0:0<c
   .have O:(1:Int)<c+1:=by omega
    have I:=Z<|r.met U C h0 ac t F;have M:=Z t;go_wp2_with (at_lookup;refine wpList_lookup_own_int _ rfl _ _ 292 rfl 9 3 .i64 P3 underlying292 underlying3 O9 w.heap.size (i+1) _ rfl t _ _ rfl y ?_;intro c2 p A;obtain rfl:c+1=c2:=by(rw[z]at p;injection p with h;injection h with _ h));exact⟨⟨i+1,d,_,by omega,by go_num,by omega,I⟩,by simp[intOf];omega⟩
   obtain rfl:c=0:=by omega
   have M:=Z<|And.intro t F;have I:w3.ownsRow (w.heap.size+1) 32 1 (.slice sa d.length sc) d.length<|df d:=cN r.own λk hk=>F.block k (r.own.lt k hk).2 (λe=>by injection e with e;have:=(r.own.lt k hk).1;omega);have av:w.heap.size<w3.heap.size:=vD t
   go_wp2_with (first
    |(at_lookup;refine wpList_lookup_own_int _ rfl _ _ 292 rfl 9 3 .i64 P3 underlying292 underlying3 O9 w.heap.size (i+1) _ rfl t _ _ rfl y ?_;intro c2 A al;obtain rfl:(0:Int)+1=c2:=by(rw[z]at A;injection A with h;injection h with _ h))
    |(at_builtin;refine Wv _ rfl (.tmp 25) (.tmp 27) 29 rfl (w.heap.size+1) 32 i0 _ 1 24 underlying29 l.1 l.2.1 l.2.2.1 l.2.2.2 rfl (by decide) _ _ _ rfl (I.alloc _) ⟨w3.heap.size,0,none⟩ 1 1 [.slice qa qn qc] rfl rfl ?m1 ?m2 ?m3 ?m4 ?m5 ?_))
   case m2=>rfl
   case m3=>unfold Zj;omega
   case m4=>omega
   case m5=>omega
   intro aw ax p O S ak;have HF:=Z<|r.new (q:=q) U C M.1 M.2 qA (V▸p) O;obtain⟨ya,yn,yc,rfl⟩:=aF p;have ah:(d++[q]).length<=i+1:=by simp;omega
   generalize d++[q]=ai at*;go_wp2;go_roundw;exact⟨i+1,ai,_,by omega,by go_num,ah,HF⟩;simp[intOf];omega
  obtain rfl:i=o.length:=by omega
  have g:Hid (qB w wr/\∃b u,Ending.returned (.slice sa d.length sc)=.returned u/\b.map (·.1)=j8 (o.map (·.1))/\b.Sublist o/\wr.ownsRow w.heap.size 32 1 u b.length (df b)):=by
   have h:=J.o;refine⟨h.d,d,_,rfl,?_,?_,bU h.own<|by omega⟩
   .rw[h.eq];simp[fq]
   have:=h.sub;rwa[Wj]at this
  go_wp2;go_ret;exact g
