import Derived.Below
import Derived.Deep.Draws
import Derived.FnData
import Derived.Laws.AppendOwn
import Derived.Laws.BitsLemmas
import Derived.Laws.NewBlocks
import Derived.Laws.World
import Derived.Lib.AppendStr
import Derived.Lib.Builder
import Derived.Lib.SliceRun
import Derived.Maps.AppendAt
import Derived.OwnWalk
import Derived.Tactics
set_option maxHeartbeats 0
set_option maxRecDepth 100000
set_option linter.all false
namespace Go.RowKit
def Hid.o{p:Prop}(h:Hid p):p:=h
end Go.RowKit
namespace Go.Proofs.YtojdpjpldokjmaaGreatDoor
def VE:=@List.getElem?_eq_getElem
def VF:=@if_neg
def VG:=@if_pos
def VH:=@List.length_append
def VI:=@Go.bodyPost_ret
def VJ:=@List.drop_eq_getElem_cons
def VK:=@Go.World.cell?_of_block
def VL:=@List.length_map
def VM:=@Go.RowKit.Below.refl
def VN:=@Go.RowKit.Below.heap_setCell
def VO:=@List.getElem?_map
def VP:=@Go.World.ownsRow_nil
def VQ:=@List.getElem_mem
def VR:=@Nat.le_refl
def VT:=@Nat.lt_of_lt_of_le
def VS:=@Go.wpList_append_own
def VV:=@List.mem_map
def VU:=@List.getElem?_append_left
def VX:=@List.take_of_length_le
def VW:=@List.getElem?_append_right
def VY:=@List.mem_of_getElem?
def VZ:=@List.getElem?_eq_some_iff
def V0:=@List.mem_map_of_mem
def V1:=@List.mem_append
def V3:=@List.length_eq_zero_iff
def V5:=@Go.info_parts
def V6:=@List.getElem?_take
def V8:=@List.mem_cons
def V7:=@List.getElem?_eq_none
def Wf:=@Nat.le_trans
def V9:=@List.take_add_one
def V_:=@List.length_singleton
def Wa:=@List.drop_length
def Wh:=@List.append_assoc
def We:=@List.map_cons
def Wd:=@congrArg
def Wc:=@List.map_append
def Wg:=@UInt8.toNat_inj
def V2:=@Go.RowKit.Below.heap_alloc
def Wi:=@Nat.zero_le
def Wj:=@List.take_length
def Wo:=@List.drop_eq_nil_of_le
def Wk:=@List.length_cons
def Wl:=@List.length_take
def Wm:=@List.getD_eq_getElem?_getD
def Wn:=@List.mem_iff_getElem?
def Wp:=@List.length_drop
def Wq:=@List.getElem?_set
def Wr:=@List.mem_of_mem_take
def Ws:=@List.set_append_right
def Wt:=@List.drop_of_length_le
def Wu:=@List.length_set
def Wv:=@Go.wpList_append_own_at
def WU:=@List.cons_append
def Ww:=@List.map_map
def Wy:=@Nat.mul_le_mul_right
def Wx:=@Nat.lt_or_ge
def WC:=@Nat.lt_succ_self
def Wz:=@List.nil_append
def WA:=@List.take_append_drop
def WB:=@Bool.eq_iff_iff
def WD:=@Option.some.inj
def WE:=@List.pairwise_append
def WG:=@List.drop_zero
def WH:=@List.mem_cons_of_mem
def WI:=@List.mem_of_mem_drop
def WJ:=@Bool.false_eq_true
def WK:=@Go.World.cell?_alloc_past
def WL:=@Go.bodyPost_end
def WM:=@List.contains_iff_mem
def W_:=@Nat.le_of_eq
def WN:=@Ne.symm
def WO:=@List.dropWhile_cons_of_pos
def WQ:=@List.append_nil
def WR:=@List.length_nil
def WS:=@List.length_zip
def WT:=@Go.IntKind.wrap_i64
def WV:=@Go.World.size_alloc
def Xb:=@List.drop_append_of_le_length
def WW:=@List.eq_nil_of_length_eq_zero
def WX:=@List.ext_getElem?
def WY:=@List.take_append_of_le_length
def WZ:=@List.pairwise_cons
def W0:=@Decidable.not_or_of_imp
def W5:=@List.suffix_cons
def W7:=@Option.getD_none
def W8:=@Option.getD_some
def W9:=@List.takeWhile_cons_of_pos
def Xa:=@List.getElem?_drop
def XS:=@List.take_append_getElem
def Xn:=@Nat.le_succ
def Xc:=@List.flatMap_cons
def Xd:=@decide_eq_false
def Xe:=@List.getElem_of_mem
def Xf:=@Array.getElem?_eq_none
def Xg:=@Nat.mul_comm
def Xh:=@Option.map_eq_some_iff
def Xi:=@Nat.add_sub_cancel
def Xj:=@List.findIdx?_eq_some_iff_getElem
def Xk:=@List.getElem?_zip_eq_some
def Xl:=@List.mem_or_eq_of_mem_set
def Xm:=@Bool.eq_false_iff
def Xo:=@Nat.pow_le_pow_right
def Xp:=@Nat.succ_mul
def Xq:=@List.map_drop
def Xr:=@List.replicate_append_replicate
def Xs:=@List.map_eq_nil_iff
def Xt:=@Array.toList_inj
def Xu:=@List.drop_drop
def Xv:=@List.getElem?_cons_succ
def Xw:=@List.getElem?_replicate
def Xx:=@Nat.add_sub_cancel_left
def Xy:=@decide_eq_true
def Xz:=@List.length_eq_one_iff
def XA:=@List.set_cons_zero
def XB:=@Nat.min_self
def XC:=@Nat.zero_add
def XD:=@UInt8.toNat_ofNat'
def XE:=@Nat.min_eq_left
def XF:=@Go.World.var?_cell
def XG:=@Nat.mul_assoc
def XH:=@List.dropWhile_cons_of_neg
def XI:=@Nat.div_lt_of_lt_mul
def XJ:=@List.mem_flatMap
def XK:=@Nat.pow_succ
def XL:=@Nat.sub_self
def XM:=@List.dropWhile_cons
def XN:=@List.findIdx?_eq_some_iff_findIdx_eq
def XO:=@List.flatten_append
def XP:=@Nat.div_le_div_left
def XQ:=@beq_eq_false_iff_ne
def XR:=@List.map_take
def XT:=@Nat.lt_irrefl
def Yk:=@List.zip_cons_cons
def XU:=@Nat.lt_of_le_of_lt
def XV:=@Option.toList_some
def Yo:=@List.flatten_cons
def XW:=@List.take_take
def XX:=@Go.World.drewN_drewN
def XY:=@Go.Lib.run_eql_slice_nil
def XZ:=@List.getElem?_toArray
def X0:=@List.length_replicate
def X3:=@Bool.and_eq_true
def X4:=@List.suffix_refl
def X5:=@Bool.true_and
def X6:=@List.getElem?_modify
def YU:=@Nat.add_mul
def X7:=@Array.size_push
def X8:=@Int.natAbs_tdiv
def X9:=@Go.Lib.wpList_append_own_string
def X_:=@List.drop_succ_cons
def Ya:=@List.flatMap_append
def YN:=@List.length_pos_iff
def Yb:=@List.map_congr_left
def Yc:=@List.takeWhile_cons
def Yd:=@List.take_succ_cons
def Ye:=@Nat.add_zero
def Yf:=@Int.tmod_eq_emod_of_nonneg
def YH:=@List.drop_left
def Yg:=@List.mem_singleton
def Yh:=@List.set_cons_succ
def Yi:=@List.takeWhile_cons_of_neg
def Yj:=@List.take_left
def Yl:=@Nat.mod_two_eq_zero_or_one
def Ym:=@List.findIdx?_eq_none_iff
def Yn:=@List.drop_sublist
def Yp:=@Nat.mul_one
def Yq:=@Bool.false_or
def Yr:=@Go.World.frozen?_alloc_past
def Ys:=@List.any_eq_true
def Yt:=@List.flatMap_map
def Yu:=@List.getElem?_cons_zero
def Yv:=@Nat.le_mul_of_pos_right
def Yw:=@List.map_nil
def Yx:=@Nat.mod_lt
def Yy:=@Nat.zero_mul
def Yz:=@Bool.or_eq_true
def YA:=@Int.natAbs_tmod
def YB:=@Int.natCast_add
def YC:=@Nat.div_le_self
def YD:=@List.eq_nil_or_concat
def aaD:=@List.singleton_append
def YE:=@Nat.le_div_iff_mul_le
def YF:=@Int.le_refl
def YG:=@Go.Lib.run_neq_ptr_same
def YI:=@List.mem_of_mem_tail
def YJ:=@List.replicate_succ'
def YK:=@Nat.mul_le_mul
def YL:=@Option.map_map
def YM:=@Int.toNat_of_nonneg
def YO:=@Nat.add_assoc
def YP:=@Int.lt_trichotomy
def YQ:=@Int.tdiv_one
def YR:=@List.Sublist.refl
def YS:=@List.pairwise_map
def YT:=@List.take_sublist
def aaE:=@Nat.add_comm
abbrev YX:=List UInt8
abbrev Y0:=List Value
abbrev Y4:=List Nat
abbrev Y7:=Nat->Prop
abbrev Y8:=Option Addr
abbrev Y9:=ByteArray
abbrev Y_:=Array Value
variable{X Y:YX}{a:Int}{b:Bool}{i j k n:Nat}
def fL(c:UInt8):Bool:=(decide (97<=c.toNat)&&decide (c.toNat<=122))||(decide (65<=c.toNat)&&decide (c.toNat<=90))||c.toNat==95
def aQ(c:UInt8):Bool:=decide (48<=c.toNat)&&decide (c.toNat<=57)
def dV(c:UInt8):Bool:=fL c||aQ c
def bW(c:UInt8):Bool:=c.toNat==32||c.toNat==9||c.toNat==10
def IM{c:UInt8}(h:(97<=c.toNat/\c.toNat<=122)\/(65<=c.toNat/\c.toNat<=90)\/c.toNat=95):fL c=true:=by unfold fL;simp;omega
def IL{c:UInt8}(h:48<=c.toNat/\c.toNat<=57):aQ c=true:=by unfold aQ;simp;omega
def qp(c:UInt8):fL c=true↔((97<=c.toNat/\c.toNat<=122)\/(65<=c.toNat/\c.toNat<=90)\/c.toNat=95):=
 ⟨λh=>by unfold fL at h;simp at h;omega,IM⟩
def gg(c:UInt8):aQ c=true↔(48<=c.toNat/\c.toNat<=57):=
 ⟨λh=>by unfold aQ at h;simp at h;omega,IL⟩
structure ae where
 k:Nat
 n:Int
 s:YX
abbrev YV:=List ae
def dF:ae:=⟨99,0,[]⟩
def jV:ae:=⟨0,0,[]⟩
def gA:List YX:=[[],[],[],[],
 [60,62],[60,61],[62,61],[40],[41],[44],[46],[59],[61],[60],[62],[43],[45],[42],[47],[37],
 [67,82,69,65,84,69],[84,65,66,76,69],[73,78,83,69,82,84],[73,78,84,79],[86,65,76,85,69,83],[68,69,76,69,84,69],[70,82,79,77],[87,72,69,82,69],
 [85,80,68,65,84,69],[83,69,84],[83,69,76,69,67,84],[68,73,83,84,73,78,67,84],[65,83],[76,69,70,84],[74,79,73,78],[79,78],[79,82,68,69,82],[66,89],
 [68,69,83,67],[76,73,77,73,84],[79,70,70,83,69,84],[65,78,68],[79,82],[78,79,84],[73,83],[78,85,76,76],[84,82,85,69],[70,65,76,83,69],[73,78,84],
 [84,69,88,84],[66,79,79,76]]
def bt(k:Nat):YX:=gA.getD k []
def fU(c:UInt8):UInt8:=if 97<=c.toNat/\c.toNat<=122 then UInt8.ofNat (c.toNat-32)else c
def kH(g:YX)(i:Nat):Nat->Option Nat
 |0=>none
 |n+1=>if bt (20+i)=g then some i else kH g (i+1) n
def nC(g:YX):Option Nat:=kH g 0 31
def lY:∀{n i j:Nat},kH X i n=some j->i<=j/\j<i+n/\bt (20+j)=X
 |0,_,_,h=>by simp[kH]at h
 |n+1,i,j,h=>by
  unfold kH at h;split at h
  .rename_i hs;simp at h;subst h;exact⟨VR _,by omega,hs⟩
  have:=lY h;exact⟨by omega,by omega,this.2.2⟩
def lX:∀{n i:Nat},(∀j,i<=j->j<i+n->bt (20+j)≠X)->kH X i n=none
 |0,_,_=>rfl
 |n+1,i,h=>by unfold kH;rw[VF<|h i (VR _)<|by omega];exact lX λj a b=>h j (by omega)<|by omega
def o_:∀{n i k:Nat},i<=k->k<i+n->(∀j,i<=j->j<k->bt (20+j)≠X)->bt (20+k)=X->kH X i n=some k
 |0,_,_,h1,h2,_,_=>by omega
 |n+1,i,k,h1,h2,hno,hs=>by
  unfold kH;by_cases e:i=k
  .subst e;rw[VG hs]
  rw[VF<|hno i (VR _)<|by omega];exact o_ (by omega) (by omega) (λj b a=>hno j (by omega) a) hs
def EF(k:Nat):(bt k).length<=8:=by
 by_cases h:k<51
 .have:∀i:Fin 51,(bt i.1).length<=8:=by decide
  exact this ⟨k,h⟩
 rw[bt,Wm,V7 (by simp[gA];omega)];simp
def G7(k:Nat)(a:4<=k)(h:k<51):bt k≠[]:=by
 have:∀i:Fin 51,4<=i.1->bt i.1≠[]:=by decide
 exact this ⟨k,h⟩ a
def Ef(h:8<X.length):nC X=none:=
 lX (λj _ _ e=>by have:=EF<|20+j;rw[e]at this;omega)
def da(w:YX):ae:=match nC (w.map fU)with
 |some i=>⟨20+i,0,[]⟩
 |none=>if 10<w.length then dF else ⟨1,0,w⟩
def dK:Int->YX->Int
 |n,[]=>n
 |n,c::r=>dK (10*n+(c.toNat-48)) r
def ed(l:YX):ae:=if dK 0 l > 9223372036854775807 then dF else ⟨2,dK 0 l,[]⟩
def o4:∀(a:YX)(n:Int),0<=n->(∀c,c∈a->aQ c=true)->n<=dK n a
 |[],n,_,_=>YF n
 |c::r,n,hn,h=>by have b:=(gg c).1<|h c (by simp);have:=o4 r (10*n+(c.toNat-48)) (by omega) λd af=>h d (by simp[af]);show n<=dK (10*n+(c.toNat-48)) r;omega
def pM{p:UInt8->Bool}:∀{l:YX}{c:UInt8},c∈l.takeWhile p->p c=true
 |d::r,c,h=>by
  rw[Yc]at h;split at h
  .rename_i a;obtain rfl|h:=V8.1 h
   .exact a
   exact pM h
  simp at h
def aq(s:Y9)(k:Nat):YX:=s.data.toList.drop k
def cJ(s:Y9)(k:Nat)(h:k<s.size):aq s k=s[k]::aq s (k+1):=by unfold aq;rw[VJ<|by simpa using h];rfl
def gK(s:Y9)(k:Nat)(h:s.size<=k):aq s k=[]:=by unfold aq;exact Wo<|by simpa using h
def qm(s:Y9):aq s 0=s.data.toList:=rfl
def ji(l r:YX)(n:Int)(b:Bool):Prop:=
 r.dropWhile aQ=l.dropWhile aQ/\0<=n/\n<=9223372036854775807/\(if b=true then 9223372036854775807<dK 0 (l.takeWhile aQ)else dK n (r.takeWhile aQ)=dK 0 (l.takeWhile aQ))
def Bp:ji X X 0 false:=⟨rfl,by omega,by omega,rfl⟩
def Cs{c:UInt8}(h:ji X (c::Y) a b)(d:aQ c=true)(i:10*a+(c.toNat-48)<=9223372036854775807):ji X Y (10*a+(c.toNat-48)) b:=by obtain⟨e,j,k,g⟩:=h;have af:=(gg c).1 d;rw[WO d]at e;rw[W9 d]at g;exact⟨e,by omega,i,g⟩
def Bn{c:UInt8}(h:ji X (c::Y) a b)(g:aQ c=true)(n:9223372036854775807<10*a+(c.toNat-48)):ji X Y (c.toNat-48) true:=by
 obtain⟨i,j,k,e⟩:=h;have af:=(gg c).1 g;rw[WO g]at i;rw[W9 g]at e;refine⟨i,by omega,by omega,?_⟩;rw[VG rfl];cases b with
 |true=>exact e
 |false=>
  have l:dK (10*a+(c.toNat-48)) (Y.takeWhile aQ)=dK 0 (X.takeWhile aQ):=e;have:=o4 (Y.takeWhile aQ) (10*a+(c.toNat-48)) (by omega) λd af=>pM af;omega
def Em(h:ji X Y a b)(k:Y=[]\/∃c j,Y=c::j/\aQ c=false):
 Y=X.dropWhile aQ/\ed (X.takeWhile aQ)=if b=true then dF else ⟨2,a,[]⟩:=by
 obtain⟨e,l,n,d⟩:=h;have i:Y.takeWhile aQ=[]/\Y.dropWhile aQ=Y:=by
  obtain rfl|⟨c,j,rfl,g⟩:=k
  .exact⟨rfl,rfl⟩
  exact⟨Yi<|by simp[g],XH<|by simp[g]⟩
 rw[i.2]at e;rw[i.1]at d;refine⟨e,?_⟩;unfold ed;cases b with
 |true=>simp only[if_true]at d ⊢;rw[VG d]
 |false=>
  have g:a=dK 0 (X.takeWhile aQ):=d;rw[<-g,VF<|by omega];rfl
def bj:YX->YX->ae×YX
 |_,[]=>(dF,[])
 |acc,[c]=>if c.toNat=39 then (if 40<acc.length then dF else ⟨3,0,acc⟩,[])else (dF,[])
 |acc,c::d::r=>
  if c.toNat=39 then
   if d.toNat=39 then bj (acc++[c]) r else (if 40<acc.length then dF else ⟨3,0,acc⟩,d::r)
  else bj (acc++[c]) (d::r)
def ey(c:Nat):Nat:=
 if c=40 then 7 else if c=41 then 8 else if c=44 then 9 else if c=46 then 10 else if c=59 then 11 else if c=61 then 12 else if c=60 then 13 else
 if c=62 then 14 else if c=43 then 15 else if c=45 then 16 else if c=42 then 17 else if c=47 then 18 else if c=37 then 19 else 99
def eY(c d:Nat):Nat:=
 if c=60/\d=62 then 4 else if c=60/\d=61 then 5 else if c=62/\d=61 then 6 else 99
def dq:YX->ae×YX
 |[]=>(jV,[])
 |[c]=>(⟨ey c.toNat,0,[]⟩,[])
 |c::d::r=>if eY c.toNat d.toNat=99 then (⟨ey c.toNat,0,[]⟩,d::r)else (⟨eY c.toNat d.toNat,0,[]⟩,r)
def cK(l:YX):ae×YX:=match l with
 |[]=>(jV,[])
 |c::r=>
  if fL c=true then (da<|l.takeWhile dV,l.dropWhile dV)
  else if aQ c=true then (ed<|l.takeWhile aQ,l.dropWhile aQ)
  else if c.toNat=39 then bj [] r
  else dq l
def aO(l:YX):ae×YX:=cK<|l.dropWhile bW
def cA(k:Nat):Int:=if k=0 then 101 else if k=1 then 119 else if k=2 then 110 else if k=3 then 116 else if k<20 then 115 else if k<51 then 107 else 120
def gT(t:ae):YX:=if t.k=1\/t.k=3 then t.s else bt t.k
def gj(t:ae):Int:=if t.k=2 then t.n else 0
def bG(t:ae):Y9:=⟨(gT t).toArray⟩
def cU(t:ae):Value:=.agg #[.int .u8<|cA t.k,.string<|bG t,.int .i64<|gj t]
def fr(t:ae):cU t=.agg #[.int .u8<|cA t.k,.string<|bG t,.int .i64<|gj t]:=rfl
def lv(p:UInt8->Bool):∀l:YX,(l.dropWhile p).length<=l.length
 |[]=>by simp
 |c::r=>by
  rw[XM];split
  .have:=lv p r;simp;omega
  simp
def pd:∀(a l:YX),(bj a l).2.length<=l.length
 |_,[]=>by simp[bj]
 |a,[c]=>by unfold bj;split<;>simp
 |a,c::d::r=>by
  unfold bj;split
  .split
   .have:=pd (a++[c]) r;simp;omega
   simp
  have:=pd (a++[c])<|d::r;simp at this ⊢;omega
def BN:∀(l:YX),l≠[]->(dq l).2.length<l.length
 |[],h=>absurd rfl h
 |[c],_=>by simp[dq]
 |c::d::r,_=>by simp only[dq];split<;>simp<;>omega
def sI{c:UInt8}(h:fL c=true):dV c=true:=by unfold dV;simp[h]
def sC:∀(l:YX),l≠[]->(cK l).2.length<l.length
 |[],h=>absurd rfl h
 |c::r,_=>by
  unfold cK;simp only;split
  .rename_i h;rw[WO<|sI h];have:=lv dV r;simp;omega
  split
  .rename_i h;rw[WO h];have:=lv aQ r;simp;omega
  split
  .have:=pd [] r;simp;omega
  exact BN _<|by simp
def jz(l:YX)(h:(aO l).1.k≠0):(aO l).2.length<l.length:=by
 unfold aO at*;have a:=lv bW l;by_cases e:l.dropWhile bW=[]
 .rw[e]at h;exact absurd rfl h
 have:=sC _ e;omega
def pX:Nat->YX->YV
 |0,_=>[]
 |n+1,l=>if (aO l).1.k=0 then []else if (aO l).1.k=99 then [dF]else (aO l).1::pX n (aO l).2
def de(l:YX):YV:=pX (l.length+1) l
def zC:∀(n m:Nat)(l:YX),l.length<n->l.length<m->pX n l=pX m l
 |0,_,_,h,_=>by omega
 |_,0,_,_,h=>by omega
 |n+1,m+1,l,hn,hm=>by
  unfold pX;by_cases a:(aO l).1.k=0
  .rw[VG a,VG a]
  rw[VF a,VF a];by_cases b:(aO l).1.k=99
  .rw[VG b,VG b]
  rw[VF b,VF b];have:=jz l a;rw[zC n m _ (by omega)<|by omega]
def gw(l:YX):de l=if (aO l).1.k=0 then []else if (aO l).1.k=99 then [dF]else (aO l).1::de (aO l).2:=by
 unfold de;rw[pX];by_cases a:(aO l).1.k=0
 .rw[VG a,VG a]
 rw[VF a,VF a];by_cases b:(aO l).1.k=99
 .rw[VG b,VG b]
 rw[VF b,VF b];have:=jz l a;rw[zC _ ((aO l).2.length+1) _ (by omega)<|by omega]
def af(ts:YV):ae:=ts.headD jV
def xU(w:YX):(da w).k=1\/(20<=(da w).k/\(da w).k<51)\/da w=dF:=by
 unfold da;split
 .rename_i i h;have:=lY h;right;left;simp;omega
 split
 .right;right;rfl
 left;rfl
def zd(l:YX):(ed l).k=2\/ed l=dF:=by
 unfold ed;split
 .right;rfl
 left;rfl
def mR:∀(a l:YX),(bj a l).1.k=3\/(bj a l).1=dF
 |_,[]=>by right;simp[bj]
 |a,[c]=>by
  unfold bj;split
  .simp only;split
   .right;rfl
   left;rfl
  right;rfl
 |a,c::d::r=>by
  unfold bj;split
  .split
   .exact mR _ _
   simp only;split
   .right;rfl
   left;rfl
  exact mR _ _
def mf(n:Nat):Prop:=(4<=n/\n<20)\/n=99
def wY{c:Prop} [Decidable c] (a:mf n)(b:mf k):mf (if c then n else k):=by split<;>assumption
def nF(c:Nat):mf<|ey c:=by
 unfold ey;repeat' (refine wY (by unfold mf;omega) ?_)
 exact .inr rfl
def xR(c d:Nat):mf<|eY c d:=by
 unfold eY;repeat' (refine wY (by unfold mf;omega) ?_)
 exact .inr rfl
def xJ(l:YX):(dq l).1=jV\/(4<=(dq l).1.k/\(dq l).1.k<20)\/(dq l).1=dF:=by
 match l with
 |[]=>left;rfl
 |[c]=>
  obtain h|h:=nF c.toNat
  .right;left;exact h
  right;right;simp[dq,h,dF]
 |c::d::r=>
  simp only[dq];split
  .obtain h|h:=nF c.toNat
   .right;left;exact h
   right;right;simp[h,dF]
  rename_i a;obtain h|h:=xR c.toNat d.toNat
  .right;left;exact h
  exact absurd h a
def nM(l:YX):(aO l).1=jV\/(1<=(aO l).1.k/\(aO l).1.k<51)\/(aO l).1=dF:=by
 unfold aO;generalize l.dropWhile bW=m;cases m with
 |nil=>left;rfl
 |cons c r=>
  simp only[cK];split
  .obtain h|h|h:=xU (List.takeWhile dV<|c::r)
   .right;left;simp only;omega
   .right;left;simp only;omega
   right;right;exact h
  split
  .obtain h|h:=zd (List.takeWhile aQ<|c::r)
   .right;left;simp only;omega
   right;right;exact h
  split
  .obtain h|h:=mR [] r
   .right;left;omega
   right;right;exact h
  obtain h|h|h:=xJ<|c::r
  .left;exact h
  .right;left;omega
  right;right;exact h
def EL(l:YX)(a:(aO l).1.k≠0)(b:(aO l).1.k≠99):de l=(aO l).1::de (aO l).2:=by rw[gw,VF a,VF b]
def ll(l:YX):af (de l)=(aO l).1:=by
 rw[gw];obtain h|h|h:=nM l
 .rw[h,VG (show jV.k=0 from rfl)];rfl
 .rw[VF<|by omega,VF<|by omega];rfl
 rw[h,VF<|by decide,VG<|by decide];rfl
def qX(a:(aO X).1.k≠0)(b:(aO X).1.k≠99):de (aO X).2=(de X).tail:=by rw[EL X a b];rfl
def zD:∀(n:Nat)(l:YX)(t:ae),l.length<n->t∈de l->(1<=t.k/\t.k<51)\/t=dF
 |0,_,_,h,_=>by omega
 |n+1,l,t,hn,a=>by
  rw[gw]at a;obtain h|h|h:=nM l
  .rw[h,VG (show jV.k=0 from rfl)]at a;cases a
  .rw[VF<|by omega,VF<|by omega]at a;obtain rfl|a:=V8.1 a
   .left;exact h
   exact zD n (aO l).2 t (by have:=jz l (by omega);omega) a
  rw[h,VF<|by decide,VG<|by decide]at a;right;simpa using a
def EE(c:4<=i)(a:i<51)(d:4<=j)(b:j<51)(h:bt i=bt j):i=j:=by
 have:∀i j:Fin 51,4<=i.1->4<=j.1->bt i.1=bt j.1->i.1=j.1:=by decide
 exact this ⟨i,a⟩ ⟨j,b⟩ c d h
