/- The code's machine: the stack. -/
import Derived.Test.YtojdpjpldokjmaaGreatDoorF08
import Derived.Deep.RegionLaw
import Derived.Test.YtojdpjpldokjmaaGreatDoorF07
set_option maxHeartbeats 60000000
set_option maxRecDepth 100000
namespace Go.Proofs.YtojdpjpldokjmaaGreatDoor
open Go.RowKit Go.Deep
set_option linter.unusedSimpArgs false
set_option linter.unusedVariables false
def vC (v:Pl.V):List Value:=[.int .i64 v.kind,.int .i64 v.n,.string ⟨v.s.toArray⟩]
def stk:List Pl.V->List Value
 | []=>[]
 | v :: st=>stk st++vC v
theorem stk_len:∀ st:List Pl.V,(stk st).length=st.length*3
 | []=>rfl
 | v :: st=>by simp [stk,vC,stk_len st];omega
def StkW (w:World)(sb base top:Nat)(st:List Pl.V):Prop:=sb<base/\base<=top/\top<=w.heap.size/\st.length<=1048576/\∃ v,w.heap[sb]?=some (.cells #[v] 332)/\w.ownsRow base 34 3 v st.length (stk st)/\∀ k,v.ownBlock=some k->k<top
theorem own_succ {w:World}{base:Nat}{e:TypeId}{size n:Nat}{v:Value}{xs:List Value}(h:w.ownsRow base e size v (n+1) xs):∃ g cap,v=.slice (some ⟨g,0,none⟩) (n+1) cap:=by
 rcases h.2 with ⟨_,h0⟩|⟨g,cap,_,rfl,_⟩
 ·cases h0
 ·exact ⟨g,cap,rfl⟩
theorem stk_top {w:World}{base g cap n:Nat}{a:Value}{v:Pl.V}{st:List Pl.V}(h:w.ownsRow base 34 3 (.slice (some ⟨g,0,none⟩) n cap) (v :: st).length (stk (v :: st))) :
 w.cell? ⟨g,st.length*3,none⟩=some (.int .i64 v.kind)/\w.cell? ⟨g,st.length*3+1,none⟩=some (.int .i64 v.n)/\w.cell? ⟨g,st.length*3+2,none⟩=some (.string ⟨v.s.toArray⟩):=by
 have hc:=fun j u hj=>addr_add g j ▸ h.cells (g:=g) rfl j u hj
 have hl:=stk_len st
 refine ⟨hc _ _ ?_,hc _ _ ?_,hc _ _ ?_⟩ <;> simp [stk,vC,List.getElem?_append_right,hl]
theorem topS (v:Pl.V)(st:List Pl.V)(sb base top:Nat)(w:World)(h:StkW w sb base top (v :: st)):Calls Tryz.prog 219 #[.pointer (some ⟨sb,0,none⟩)] w fun e w'=>e=.returned (vV v)/\Below w.heap.size w w':=by
 obtain ⟨hsb,hbt,hbw,hlen,sv,hbx,hown,hto⟩:=h
 obtain ⟨g,cap,rfl⟩:=own_succ hown
 obtain ⟨t0,t1,t2⟩:=stk_top (a:=.slice none 0 0) hown
 have b0:=bC hbx 0
 simp at b0
 have hlt:=lB hbx
 have hgl:g<w.heap.size:=by rcases hown.2 with ⟨h0,_⟩|⟨g',cap',cur,h0,_,hg,_⟩;cases h0;cases h0;exact (Array.getElem?_eq_some_iff.1 hg).1
 simp at hlen
 have hw0:wrap64 ((st.length:Int)+1 - 1)=st.length:=by unfold wrap64;omega
 clear hown hbx hto hbt
 unfold vV
 go_enter Tryz.func219,Tryz.ntmps219
 go_wp2_with fail
 go_region
 go_wp2_with fail
 refine bodyPost_ret (v:=.agg #[.int .i64 v.kind,.int .i64 v.n,.string ⟨v.s.toArray⟩]) ?_ rfl ⟨rfl,((Below.refl w.heap.size w).alloc (Nat.le_refl _) _).drew⟩
 simp [results,Tryz.results219,go_sem]
structure KB (base sb:Nat)(w w':World):Prop where
 os:w'.os=w.os
 tape:w'.tape=w.tape
 output:w'.output=w.output
 size:w.heap.size<=w'.heap.size
 block:∀ k,k<base->k≠sb->w'.heap[k]?=w.heap[k]?
theorem KB.refl (base sb:Nat)(w:World):KB base sb w w:=⟨rfl,rfl,rfl,Nat.le_refl _,fun _ _ _=>rfl⟩
theorem KB.trans {base sb:Nat}{a b c:World}(h:KB base sb a b)(k:KB base sb b c):KB base sb a c :=
 ⟨k.os.trans h.os,k.tape.trans h.tape,k.output.trans h.output,Nat.le_trans h.size k.size,fun i hi hne=>(k.block i hi hne).trans (h.block i hi hne)⟩
theorem KB.keeps {base sb:Nat}{a b:World}(h:Keeps sb a b)(hb:base<=a.heap.size):KB base sb a b :=
 ⟨h.os,h.tape,h.output,h.size,fun k hk hne=>h.block k (by omega) hne⟩
theorem KB.below {base sb:Nat}{a b:World}(h:Below a.heap.size a b)(hb:base<=a.heap.size):KB base sb a b:=KB.keeps ((Keeps.refl sb a).below h) hb
theorem KB.grown {base sb:Nat}{a b:World}{row:Option Nat}(h:a.grownBy b row)(hr:∀ k,row=some k->base<=k)(hb:base<=a.heap.size):KB base sb a b :=
 ⟨h.os,h.tape,h.output,h.size,fun k hk hne=>h.block k (by omega) (fun e=>by have:=hr k e.symm;omega)⟩
theorem KB.set {base sb:Nat}{a b:World}(h:KB base sb a b)(o:Nat)(v:Value):KB base sb a (b.setCell ⟨sb,o,none⟩ v) :=
 h.trans ⟨rfl,rfl,rfl,by simp [World.setCell],fun i _ hne=>Below.heap_setCell _ _ _ _ hne⟩
theorem StkW.keep {w w':World}{sb base top:Nat}{st:List Pl.V}(h:StkW w sb base top st)(hs:w.heap.size<=w'.heap.size)(hk:∀ k,k<top->w'.heap[k]?=w.heap[k]?):StkW w' sb base top st:=by
 obtain ⟨h1,h2,h3,h4,v,h5,h6,h7⟩:=h
 refine ⟨h1,h2,Nat.le_trans h3 hs,h4,v,by rw [hk sb (by omega)];exact h5,⟨h6.1,?_⟩,h7⟩
 rcases h6.2 with h0|⟨g,cap,cur,rfl,hb,hg,hr⟩
 ·exact .inl h0
 ·exact .inr ⟨g,cap,cur,rfl,hb,by rw [hk g (h7 g rfl)];exact hg,hr⟩
theorem StkW.below {w w':World}{sb base top:Nat}{st:List Pl.V}(h:StkW w sb base top st)(hb:Below w.heap.size w w'):StkW w' sb base top st :=
 h.keep hb.size (fun k hk=>hb.block k (by have:=h.2.2.1;omega))
theorem StkW.box {w:World}{sb base top k:Nat}{st:List Pl.V}(h:StkW w sb base top st)(hk:top<=k)(x y z:Value):StkW (((w.setCell ⟨k,0,none⟩ x).setCell ⟨k,1,none⟩ y).setCell ⟨k,2,none⟩ z) sb base top st :=
 h.keep (by simp [World.setCell]) (fun i hi=>by rw [Below.heap_setCell _ _ _ _ (by simp;omega),Below.heap_setCell _ _ _ _ (by simp;omega),Below.heap_setCell _ _ _ _ (by simp;omega)])
theorem StkW.up {w:World}{sb base top:Nat}{st:List Pl.V}(h:StkW w sb base top st):StkW w sb base w.heap.size st:=by
 obtain ⟨h1,h2,h3,h4,v,h5,h6,h7⟩:=h
 exact ⟨h1,Nat.le_trans h2 h3,Nat.le_refl _,h4,v,h5,h6,fun k hk=>Nat.lt_of_lt_of_le (h7 k hk) h3⟩
theorem stk_pop {w F:World}{sb base top g n cap:Nat}{v:Pl.V}{st:List Pl.V}(h1:sb<base)(ht:base<=top)(hto:∀ k,(Value.slice (some ⟨g,0,none⟩) n cap).ownBlock=some k->k<top)(h2:top<=w.heap.size)(h3:st.length+1<=1048576)
 (hown:w.ownsRow base 34 3 (.slice (some ⟨g,0,none⟩) n cap) (st.length+1) (stk (v :: st))) (hk:Keeps sb w F) (hF:F.heap[sb]?=some (.cells #[.slice (some ⟨g,0,none⟩) st.length cap] 332)):StkW F sb base top st:=by
 refine ⟨h1,ht,Nat.le_trans h2 hk.size,by omega,_,hF,?_,hto⟩
 have h0:w.ownsRow base 34 3 (.slice (some ⟨g,0,none⟩) st.length cap) st.length (stk st):=by
  refine ⟨stk_len st,?_⟩
  rcases hown.2 with ⟨h0,_⟩|⟨g',cap',cur,hv,hb,hg,hc,hm,hcs,ht⟩
  ·cases h0
  ·cases hv
   refine .inr ⟨g,cap,cur,rfl,hb,hg,by omega,hm,hcs,?_⟩
   have:=congrArg (List.take (st.length*3)) ht
   rw [List.take_take] at this
   rw [show min (st.length*3) ((st.length+1)*3)=st.length*3 by omega] at this
   rw [this]
   simp [stk,List.take_append,stk_len]
 exact own_keeps hk h1 h0
theorem popS (v:Pl.V)(st:List Pl.V)(sb base top:Nat)(w:World)(h:StkW w sb base top (v :: st)):Calls Tryz.prog 222 #[.pointer (some ⟨sb,0,none⟩)] w fun e w'=>e=.returned (vV v)/\StkW w' sb base top st/\Keeps sb w w':=by
 have HT:=Z (fun w' (k:StkW w' sb base top (v :: st))=>topS v st sb base top w' k)
 have HW:=Z h
 obtain ⟨h1,ht,h2,h3,sv,h4,h5,hto⟩:=h
 obtain ⟨g,cap,rfl⟩:=own_succ h5
 have hlt:=lB h4
 have hcap:st.length+1<=cap:=by
  rcases h5.2 with ⟨h0,_⟩|⟨g',cap',cur,hv,hb,hg,hc,_⟩
  ·cases h0
  ·cases hv;exact hc
 have hw0:wrap64 ((st.length:Int)+1 - 1)=st.length:=by simp at h3;unfold wrap64;omega
 have hle:st.length<=cap:=by omega
 have HP:=Z (fun F hk hF=>stk_pop (F:=F) h1 ht hto h2 (by simpa using h3) h5 hk hF)
 have H4:=Z h4
 have H2:=Z h2
 have b0:=bC h4 0
 simp at b0
 have hf:=bF h4 0
 simp at h3
 have hw1:wrap64 (st.length:Int)=st.length:=by unfold wrap64;omega
 clear h1 h2 h4 h5 hcap ht hto
 unfold vV at *
 go_enter Tryz.func222,Tryz.ntmps222
 go_wp2_with fail
 refine ((U HT) _ (HW.out.below ((Below.refl w.heap.size w).alloc (Nat.le_refl _) _))).mono ?_
 rintro e w1 ⟨rfl,hb1⟩
 obtain ⟨c1,f1⟩:=bcell hb1
 have HB1:=Z (((Below.refl w.heap.size w).alloc (Nat.le_refl _) _).trans (hb1.mono (by simp)))
 have hz1:w.heap.size<w1.heap.size:=by have:=hb1.size;simp at this;omega
 have hlt1:sb<w1.heap.size:=by omega
 have H4b:=Z (bB HB1.out hlt H4.out)
 clear hb1
 go_wp2_with fail
 go_region
 go_wp2_with fail
 have hK:=(((((((Keeps.refl sb w).below HB1.out).set 0 (.slice (some ⟨g,0,none⟩) st.length cap)).setNew (p:=⟨w.heap.size,0,none⟩) (Nat.le_refl _) (.int .i64 v.kind)).setNew (p:=⟨w.heap.size,1,none⟩) (Nat.le_refl _) (.int .i64 v.n)).setNew (p:=⟨w.heap.size,2,none⟩) (Nat.le_refl _) (.string ⟨v.s.toArray⟩)).alloc (Obj.cells #[.int .i64 v.kind,.int .i64 v.n,.string ⟨v.s.toArray⟩] 34)).drew
 refine bodyPost_ret (v:=.agg #[.int .i64 v.kind,.int .i64 v.n,.string ⟨v.s.toArray⟩]) ?_ rfl ⟨rfl,HP.out _ hK ?_,hK⟩
 ·simp [results,Tryz.results222,go_sem,c1,hz1]
 ·exact blk_drew (bA (blk_set_ne (blk_set_ne (blk_set_ne (bS H4b.out 0 _) (by omega) _ _) (by omega) _ _) (by omega) _ _) _)
theorem Tryz.infoAV:(Tryz.prog.info? 34).map (fun i=>(i.zero,i.size,i.bytes))=some (some (.agg #[.int .i64 0,.int .i64 0,.string ⟨#[]⟩]),3,32):=by kernel_rfl
theorem step_append_own {P:Program}{ops:Array Oper}{o:Oper}{a:Act}{w:World}{K:Act->World->Prop}{Q:Exit->Act->World->Prop}{E:Prop}
 (hg:o.guard=none) (s x:Operand) (t:TypeId) (hop:o.op=Op.call { callee:=Callee.builtin Builtin.append,args:=#[s,x],argTypes:=#[t,t] })
 (base:Nat) (e:TypeId) (i:TypeInfo) (z:Value) (size bytes:Nat) (h1:P.underlying t=some (.slice e)) (h2:P.info? e=some i) (h3:i.zero=some z) (h4:i.size=size) (h5:i.bytes=bytes) (h6:z.cells.size=size) (h7:0<size)
 (v:Value) (n:Nat) (xs:List Value) (hs:a.eval s=v) (hown:w.ownsRow base e size v n xs)
 (ad:Addr) (m c:Nat) (news:List Value) (hx:a.eval x=.slice (some ad) m c) (hn:news.length=m*size) (hc:∀ j u,news[j]?=some u->w.cell? (ad.add j)=some u) (h1c:∀ u ∈ news,u.oneCell'=true)
 (b1:n+m<=maxLen) (b2:(n+m)*bytes<=140737488355328) (hb:base<=w.heap.size)
 (hK:∀ v' w',w'.ownsRow base e size v' (n+m) (xs++news)->w.grownBy w' v.ownBlock->K (a.put o.dst v') w') :
 if Region.wanted o (yielded ops a.tmps)=true then Oper.wp P o a w K Q else E:=by
 have hw:Region.wanted o (yielded ops a.tmps)=true:=by simp [Region.wanted,hg]
 rw [if_pos hw]
 obtain ⟨v',w',hrun,r1,r2,_⟩:=run_append_own (P:=P) w base t o.type e i z size bytes h1 h2 h3 h4 h5 h6 h7 v n xs hown ad m c news hn hc h1c b1 b2 hb
 unfold Oper.wp
 simp [execOp,hop,resolve,invoke,builtin,hs,hx,hrun,Result.andThen]
 exact hK v' w' r1 r2
theorem stk_push {w w1 w2:World}{sb base top:Nat}{sv v':Value}{v:Pl.V}{st:List Pl.V}(h1:sb<base)(ht:base<=top)(h2:top<=w.heap.size)(hl:st.length+1<=1048576)(hbx:w.heap[sb]?=some (.cells #[sv] 332))
 (hown:w.ownsRow base 34 3 sv st.length (stk st)) (hk:Below w.heap.size w w1) (hown2:w2.ownsRow base 34 3 v' (st.length+1) (stk st++vC v)) (hg:w1.grownBy w2 sv.ownBlock) :
 w2.heap[sb]?=some (.cells #[sv] 332)/\StkW (w2.setCell ⟨sb,0,none⟩ v') sb base w2.heap.size (v :: st)/\KB base sb w (w2.setCell ⟨sb,0,none⟩ v'):=by
 have hr:∀ k,sv.ownBlock=some k->base<=k:=fun k hk=>(hown.lt k hk).1
 have hb2:w2.heap[sb]?=some (.cells #[sv] 332):=by
  rw [hg.block sb (by have:=hk.size;have:=lB hbx;omega) (fun e=>by have:=hr sb e.symm;omega)]
  exact bB hk (lB hbx) hbx
 refine ⟨hb2,⟨h1,?_,by rw [size_set];exact Nat.le_refl _,by simpa using hl,v',by rw [bS hb2];rfl,own_keeps ((Keeps.refl sb w2).set 0 v') h1 hown2,fun k hk=>(hown2.lt k hk).2⟩,?_⟩
 ·have:=hg.size;have:=hk.size;omega
 ·exact ((KB.below hk (by omega)).trans (KB.grown hg hr (by have:=hk.size;omega))).set 0 v'
theorem pushS (v:Pl.V)(st:List Pl.V)(sb base top:Nat)(w:World)(h:StkW w sb base top st)(hl:st.length+1<=1048576):Calls Tryz.prog 218 #[.pointer (some ⟨sb,0,none⟩),vV v] w fun e w'=>e=.returned (.tuple #[])/\StkW w' sb base w'.heap.size (v :: st)/\KB base sb w w':=by
 obtain ⟨h1,ht,h2,h3,sv,h4,h5,hto⟩:=h
 obtain ⟨i0,hi,hz0,hz1,hz2⟩:=info_parts Tryz.infoAV
 have hlt:=lB h4
 have b0:=bC h4 0
 simp at b0
 have hf:=bF h4 0
 have HX:=Z (fun w1 w2 v' hk hown2 hg=>stk_push (w1:=w1) (w2:=w2) (v':=v') (v:=v) h1 ht h2 hl h4 h5 hk hown2 hg)
 have H2:=Z h2
 obtain ⟨sa,sn,sc,rfl⟩:=own_slice h5
 have H5:=Z h5
 have HN:Hid (∀ j u,(vC v)[j]?=some u->((w.alloc (.cells #[.int .i64 v.kind,.int .i64 v.n,.string ⟨v.s.toArray⟩] 34)).alloc (.cells #[.int .i64 v.kind,.int .i64 v.n,.string ⟨v.s.toArray⟩] 34)).drew.cell? ((⟨w.heap.size+1,0,none⟩:Addr).add j)=some u):=by
  have:=news_at (w.alloc (.cells #[.int .i64 v.kind,.int .i64 v.n,.string ⟨v.s.toArray⟩] 34)) (vC v) 34
  simp only [World.alloc,Array.size_push] at this ⊢
  exact this
 have HO:Hid (∀ u ∈ vC v,u.oneCell'=true):=by intro u hu;simp [vC] at hu;rcases hu with rfl|rfl|rfl <;> rfl
 have HM:Hid (st.length+1<=maxLen):=by unfold Hid maxLen;omega
 have HY:Hid ((st.length+1)*32<=140737488355328):=by unfold Hid;omega
 have HZ:Hid (base<=((w.alloc (.cells #[.int .i64 v.kind,.int .i64 v.n,.string ⟨v.s.toArray⟩] 34)).alloc (.cells #[.int .i64 v.kind,.int .i64 v.n,.string ⟨v.s.toArray⟩] 34)).drew.heap.size):=by unfold Hid;simp [World.drew];omega
 have HB:Hid (Below w.heap.size w ((w.alloc (.cells #[.int .i64 v.kind,.int .i64 v.n,.string ⟨v.s.toArray⟩] 34)).alloc (.cells #[.int .i64 v.kind,.int .i64 v.n,.string ⟨v.s.toArray⟩] 34)).drew):=(((Below.refl w.heap.size w).alloc (Nat.le_refl _) _).alloc (by simp) _).drew
 clear h1 h2 h4 h5 h3 ht hto
 unfold vV at *
 go_enter Tryz.func218,Tryz.ntmps218
 go_wp2_with fail
 go_region_law (refine step_append_own rfl (.tmp 7) (.tmp 9) 332 rfl base 34 i0 _ 3 32 Tryz.underlying332 hi hz0 hz1 hz2 rfl (by decide) _ _ _ (by simp [Act.eval,Act.put]) ((H5.out.alloc _).alloc _) ⟨w.heap.size+1,0,none⟩ 1 1 (vC v) (by simp [Act.eval,Act.put]) rfl HN.out HO.out HM.out HY.out HZ.out ?_;intro v' w' hown' hg';obtain ⟨g',cap',rfl⟩:=own_succ hown';obtain ⟨hb2,hs2,hk2⟩:=HX.out _ _ _ HB.out hown' hg';have c2:=bC hb2 0;simp at c2;have f2:=bF hb2 0;have HS2:=Z hs2;have HK2:=Z hk2;clear hs2 hk2 hb2 hown' hg')
 all_goals go_wp2_with fail
 all_goals
  refine bodyPost_end (v:=.tuple #[]) (by simp [results,Tryz.results218,go_sem]) rfl ?_
  exact ⟨rfl,by rw [size_set];exact HS2.out,HK2.out⟩
theorem twoM (X:MachLib)(op:Nat)(h6:6<=op)(h18:op<=18)(l r:Pl.V)(ha:inR l.n)(hb:inR r.n)(w:World):Calls Tryz.prog 255 #[.int .i64 ((op+2:Nat):Int),vV l,vV r] w fun e w'=>e=.returned (outV (Pl.ap2 op l r))/\Below w.heap.size w w':=by
 by_cases h17:op=17
 ·exact twoLogic op false (.inl ⟨h17,rfl⟩) l r w
 by_cases h18:op=18
 ·exact twoLogic op true (.inr ⟨h18,rfl⟩) l r w
 cases hl:l.miss
 ·cases hr:r.miss
  ·by_cases h10:op<=10
   ·exact twoNum op h6 h10 l r hl hr ha hb w
   ·exact twoCmp X op (by omega) (by omega) l r hl hr w
  ·exact twoNull op h6 (by omega) l r (.inr hr) w
 ·exact twoNull op h6 (by omega) l r (.inl hl) w
theorem Keeps.kb {base sb:Nat}{a b:World}(h:Keeps sb a b)(hb:base<=a.heap.size):KB base sb a b:=KB.keeps h hb
theorem KB.box {base sb k:Nat}{a b:World}(h:KB base sb a b)(hk:base<=k)(x y z:Value):KB base sb a (((b.setCell ⟨k,0,none⟩ x).setCell ⟨k,1,none⟩ y).setCell ⟨k,2,none⟩ z):=by
 refine h.trans ⟨rfl,rfl,rfl,by simp [World.setCell],fun i hi _=>?_⟩
 rw [Below.heap_setCell _ _ _ _ (by simp;omega),Below.heap_setCell _ _ _ _ (by simp;omega),Below.heap_setCell _ _ _ _ (by simp;omega)]
theorem pop_pack {w w1 w2:World}{sb:Nat}{A B C A' B' C':Value}{t:TypeId}(hz:w.heap.size<w1.heap.size)(hs:sb<w.heap.size)(hb:w1.heap[w.heap.size]?=some (.cells #[A,B,C] t))(hk:Keeps sb (w1.alloc (.cells #[A',B',C'] t)).drew w2) :
 (∀ j,w2.cell? ⟨w.heap.size,j,none⟩=#[A,B,C][j]?)/\(∀ j,w2.frozen? ⟨w.heap.size,j,none⟩=false)/\w2.cell? ⟨w1.heap.size,0,none⟩=some A'/\w2.cell? ⟨w1.heap.size,1,none⟩=some B'/\w2.cell? ⟨w1.heap.size,2,none⟩=some C'/\w.heap.size<w2.heap.size:=by
 have h1:w2.heap[w.heap.size]?=some (.cells #[A,B,C] t):=hk.blk (by omega) (blk_drew (bA hb _))
 have h2:w2.heap[w1.heap.size]?=some (.cells #[A',B',C'] t):=hk.blk (by omega) (blk_drew (blk_new w1 _))
 exact ⟨bC h1,bF h1,bC h2 0,bC h2 1,bC h2 2,lB h1⟩
theorem apply2S (X:MachLib)(op:Nat)(h6:6<=op)(h18:op<=18)(l r:Pl.V)(st:List Pl.V)(ha:inR l.n)(hb:inR r.n)(sb base top:Nat)(w:World)(h:StkW w sb base top (r :: l :: st)):Calls Tryz.prog 221 #[.pointer (some ⟨sb,0,none⟩),.int .i64 ((op+2:Nat):Int)] w fun e w'=>e=.returned (outV (Pl.ap2 op l r))/\StkW w' sb base top st/\KB base sb w w':=by
 have HW:=Z h
 have HS:Hid (sb<base/\base<=top/\top<=w.heap.size):=⟨h.1,h.2.1,h.2.2.1⟩
 have hne:sb<w.heap.size:=by have:=HS.out;omega
 have HT:=Z (twoM X op h6 h18 l r ha hb)
 generalize Pl.ap2 op l r=o at *
 obtain ⟨oa,om,ol,os,ho⟩:=outV_form o
 rw [ho] at HT ⊢
 have g4:(((op+2:Nat):Int) == 4)=false:=by simp;omega
 have g5:(((op+2:Nat):Int) == 5)=false:=by simp;omega
 have g6:(((op+2:Nat):Int) == 6)=false:=by simp;omega
 have g7:(((op+2:Nat):Int) == 7)=false:=by simp;omega
 have HP1:=Z (fun w' (k:StkW w' sb base top (r :: l :: st))=>popS r (l :: st) sb base top w' k)
 have HP2:=Z (fun w' (k:StkW w' sb base top (l :: st))=>popS l st sb base top w' k)
 clear h
 unfold vV at *
 go_enter Tryz.func221,Tryz.ntmps221
 go_wp2_with fail
 refine ((U HP1) _ (HW.out.below ((Below.refl w.heap.size w).alloc (Nat.le_refl _) _))).mono ?_
 rintro e w1 ⟨rfl,hs1,hk1⟩
 have HS1:=Z hs1
 have hz1:w.heap.size<w1.heap.size:=by have:=hk1.size;simp at this;omega
 have HB1:Hid (w1.heap[w.heap.size]?=some (.cells #[.int .i64 0,.int .i64 0,.string ⟨#[]⟩] 34)):=hk1.blk (by omega) (blk_new w _)
 have HK1:=Z (KB.trans (KB.below ((Below.refl w.heap.size w).alloc (Nat.le_refl _) _) (by have:=HS.out;omega)) (hk1.kb (base:=base) (by have:=HS.out;simp;omega)))
 clear hs1 hk1
 have c1:=bC HB1.out
 go_wp2_with fail
 go_region_with (first
  | (go_at_call 222;refine ((U HP2) _ (HS1.out.below ((Below.refl w1.heap.size w1).alloc (Nat.le_refl _) _).drew)).mono ?_;rintro e w2 ⟨rfl,hs2,hk2⟩;have HS2:=Z hs2;have HK2:=Z hk2;obtain ⟨q1,q2,q3,q4,q5,q6⟩:=pop_pack hz1 hne HB1.out hk2;clear hs2 hk2)
  | (go_at_call 255;refine (U HT _).mono ?_;rintro e w3 ⟨rfl,hb3⟩;obtain ⟨c3,f3⟩:=bcell hb3;have HB3:=Z hb3;have q7:w.heap.size<w3.heap.size:=(by have:=hb3.size;omega);clear hb3))
 all_goals
  go_wp2_with fail
  have hK2:=HK2.out
  have hs:=HS.out
  have hB3:=HB3.out
  have hk2s:=hK2.size
  simp [World.drew] at hk2s
  refine bodyPost_ret (v:=.tuple #[.agg #[.int .i64 oa,.int .i64 om,.string os],.int .i64 ol]) ?_ rfl ⟨rfl,(HS2.out.below hB3).box (by omega) _ _ _,(((HK1.out.trans (KB.below ((Below.refl w1.heap.size w1).alloc (Nat.le_refl _) _).drew (by omega))).trans (hK2.kb (by simp [World.drew];omega))).trans (KB.below hB3 (by omega))).box (by omega) _ _ _⟩
  simp [results,Tryz.results221,go_sem,c3,q1,q6,q7]
theorem apply1N (op:Nat)(hop:op=2)(v:Pl.V)(hv:inR v.n)(st:List Pl.V)(sb base top:Nat)(w:World)(h:StkW w sb base top (v :: st)):Calls Tryz.prog 221 #[.pointer (some ⟨sb,0,none⟩),.int .i64 ((op+2:Nat):Int)] w fun e w'=>e=.returned (outV (Pl.ap1 op v))/\StkW w' sb base top st/\KB base sb w w':=by
 have HW:=Z h
 have HS:Hid (sb<base/\base<=top/\top<=w.heap.size):=⟨h.1,h.2.1,h.2.2.1⟩
 have hne:sb<w.heap.size:=by have:=HS.out;omega
 have HP1:=Z (fun w' (k:StkW w' sb base top (v :: st))=>popS v st sb base top w' k)
 subst hop
 have HT:=Z (negatedM v hv)
 have HV:Hid (Pl.ap1 2 v=Pl.neg v):=rfl
 rw [HV.out]
 generalize Pl.neg v=o at *
 obtain ⟨oa,om,ol,os,ho⟩:=outV_form o
 rw [ho] at HT ⊢
 clear h
 unfold vV at *
 go_enter Tryz.func221,Tryz.ntmps221
 go_wp2_with fail
 refine ((U HP1) _ (HW.out.below ((Below.refl w.heap.size w).alloc (Nat.le_refl _) _))).mono ?_
 rintro e w1 ⟨rfl,hs1,hk1⟩
 have HS1:=Z hs1
 have hz1:w.heap.size<w1.heap.size:=by have:=hk1.size;simp at this;omega
 have HB1:Hid (w1.heap[w.heap.size]?=some (.cells #[.int .i64 0,.int .i64 0,.string ⟨#[]⟩] 34)):=hk1.blk (by omega) (blk_new w _)
 have HK1:=Z (KB.trans (KB.below ((Below.refl w.heap.size w).alloc (Nat.le_refl _) _) (by have:=HS.out;omega)) (hk1.kb (base:=base) (by have:=HS.out;simp;omega)))
 clear hs1 hk1
 have c1:=bC HB1.out
 have f1:=bF HB1.out
 go_wp2_with fail
 refine (U HT _).mono ?_
 rintro e w3 ⟨rfl,hb3⟩
 obtain ⟨c3,f3⟩:=bcell hb3
 have HB3:=Z hb3
 have q7:w.heap.size<w3.heap.size:=by have:=hb3.size;simp at this;omega
 clear hb3
 go_wp2_with fail
 have hB3:=((Below.refl w1.heap.size w1).alloc (Nat.le_refl _) _).trans (HB3.out.mono (by simp))
 have hs:=HS.out
 have d:=bC (bB hB3 hz1 HB1.out)
 clear c3 f3
 refine bodyPost_ret (v:=.tuple #[.agg #[.int .i64 oa,.int .i64 om,.string os],.int .i64 ol]) ?_ rfl ⟨rfl,(HS1.out.below hB3).box (by omega) _ _ _,(HK1.out.trans (KB.below hB3 (by omega))).box (by omega) _ _ _⟩
 simp [results,Tryz.results221,go_sem,d,q7]
theorem apply1O (op:Nat)(hop:op=3)(v:Pl.V)(hv:inR v.n)(st:List Pl.V)(sb base top:Nat)(w:World)(h:StkW w sb base top (v :: st)):Calls Tryz.prog 221 #[.pointer (some ⟨sb,0,none⟩),.int .i64 ((op+2:Nat):Int)] w fun e w'=>e=.returned (outV (Pl.ap1 op v))/\StkW w' sb base top st/\KB base sb w w':=by
 have HW:=Z h
 have HS:Hid (sb<base/\base<=top/\top<=w.heap.size):=⟨h.1,h.2.1,h.2.2.1⟩
 have hne:sb<w.heap.size:=by have:=HS.out;omega
 have HP1:=Z (fun w' (k:StkW w' sb base top (v :: st))=>popS v st sb base top w' k)
 subst hop
 have HT:=Z (oppositeM v)
 have HV:Hid (outV (Pl.ap1 3 v)=.tuple #[vV (Pl.opp v),.int .i64 0]):=rfl
 rw [HV.out]
 generalize Pl.opp v=o at *
 have hj:∃ a m:Int,∃ s:ByteArray,vV o=.agg #[.int .i64 a,.int .i64 m,.string s]:=⟨_,_,_,rfl⟩
 obtain ⟨oa,om,os,ho⟩:=hj
 rw [ho] at HT ⊢
 clear h
 unfold vV at *
 go_enter Tryz.func221,Tryz.ntmps221
 go_wp2_with fail
 refine ((U HP1) _ (HW.out.below ((Below.refl w.heap.size w).alloc (Nat.le_refl _) _))).mono ?_
 rintro e w1 ⟨rfl,hs1,hk1⟩
 have HS1:=Z hs1
 have hz1:w.heap.size<w1.heap.size:=by have:=hk1.size;simp at this;omega
 have HB1:Hid (w1.heap[w.heap.size]?=some (.cells #[.int .i64 0,.int .i64 0,.string ⟨#[]⟩] 34)):=hk1.blk (by omega) (blk_new w _)
 have HK1:=Z (KB.trans (KB.below ((Below.refl w.heap.size w).alloc (Nat.le_refl _) _) (by have:=HS.out;omega)) (hk1.kb (base:=base) (by have:=HS.out;simp;omega)))
 clear hs1 hk1
 have c1:=bC HB1.out
 have f1:=bF HB1.out
 go_wp2_with fail
 refine (U HT _).mono ?_
 rintro e w3 ⟨rfl,hb3⟩
 obtain ⟨c3,f3⟩:=bcell hb3
 have HB3:=Z hb3
 have q7:w.heap.size<w3.heap.size:=by have:=hb3.size;simp at this;omega
 clear hb3
 go_wp2_with fail
 have hB3:=((Below.refl w1.heap.size w1).alloc (Nat.le_refl _) _).trans (HB3.out.mono (by simp))
 have hs:=HS.out
 have d:=bC (bB hB3 hz1 HB1.out)
 clear c3 f3
 refine bodyPost_ret (v:=.tuple #[.agg #[.int .i64 o.kind,.int .i64 o.n,.string ⟨o.s.toArray⟩],.int .i64 0]) ?_ rfl ⟨rfl,(HS1.out.below hB3).box (by omega) _ _ _,(HK1.out.trans (KB.below hB3 (by omega))).box (by omega) _ _ _⟩
 simp [results,Tryz.results221,go_sem,d,q7]
theorem apply1I (op:Nat)(hop:op=4\/op=5)(v:Pl.V)(hv:inR v.n)(st:List Pl.V)(sb base top:Nat)(w:World)(h:StkW w sb base top (v :: st)):Calls Tryz.prog 221 #[.pointer (some ⟨sb,0,none⟩),.int .i64 ((op+2:Nat):Int)] w fun e w'=>e=.returned (outV (Pl.ap1 op v))/\StkW w' sb base top st/\KB base sb w w':=by
 have HW:=Z h
 have HS:Hid (sb<base/\base<=top/\top<=w.heap.size):=⟨h.1,h.2.1,h.2.2.1⟩
 have hne:sb<w.heap.size:=by have:=HS.out;omega
 have HP1:=Z (fun w' (k:StkW w' sb base top (v :: st))=>popS v st sb base top w' k)
 have HM:=Z (missingM v)
 have HT:=Z (truthM (v.miss == (op == 4)))
 have HV:Hid (outV (Pl.ap1 op v)=.tuple #[vV (Pl.tru (v.miss == (op == 4))),.int .i64 0]):=by rcases hop with rfl|rfl <;> rfl
 rw [HV.out]
 clear HV
 generalize v.miss=bm at *
 have hx:∃ b,(bm == (op == 4))=b:=⟨_,rfl⟩
 obtain ⟨bb,hbb⟩:=hx
 rw [hbb] at HT ⊢
 have hj:∃ a m:Int,∃ s:ByteArray,vV (Pl.tru bb)=.agg #[.int .i64 a,.int .i64 m,.string s]:=⟨_,_,_,rfl⟩
 obtain ⟨oa,om,os,ho⟩:=hj
 rw [ho] at HT ⊢
 clear ho
 rcases hop with rfl|rfl
 all_goals
  cases bm <;> simp at hbb <;> subst hbb
 all_goals
  clear h
  unfold vV at *
  go_enter Tryz.func221,Tryz.ntmps221
  go_wp2_with fail
  refine ((U HP1) _ (HW.out.below ((Below.refl w.heap.size w).alloc (Nat.le_refl _) _))).mono ?_
  rintro e w1 ⟨rfl,hs1,hk1⟩
  have HS1:=Z hs1
  have hz1:w.heap.size<w1.heap.size:=by have:=hk1.size;simp at this;omega
  have HB1:Hid (w1.heap[w.heap.size]?=some (.cells #[.int .i64 0,.int .i64 0,.string ⟨#[]⟩] 34)):=hk1.blk (by omega) (blk_new w _)
  have HK1:=Z (KB.trans (KB.below ((Below.refl w.heap.size w).alloc (Nat.le_refl _) _) (by have:=HS.out;omega)) (hk1.kb (base:=base) (by have:=HS.out;simp;omega)))
  clear hs1 hk1
  have c1:=bC HB1.out
  have f1:=bF HB1.out
  go_wp2_with fail
  refine (U HM _).mono ?_
  rintro e w2 ⟨rfl,hb2⟩
  obtain ⟨c2,f2⟩:=bcell hb2
  have HB2:=Z hb2
  have q6:w1.heap.size+1<=w2.heap.size:=by have:=hb2.size;simpa using this
  clear hb2
  go_wp2_with fail
  refine (U HT _).mono ?_
  rintro e w3 ⟨rfl,hb3⟩
  obtain ⟨c3,f3⟩:=bcell hb3
  have HB3:=Z hb3
  have q5:w.heap.size<w2.heap.size:=by omega
  have q7:w.heap.size<w3.heap.size:=by have:=hb3.size;omega
  clear hb3
  go_wp2_with fail
  have hB3:=(((Below.refl w1.heap.size w1).alloc (Nat.le_refl _) _).trans (HB2.out.mono (by simp))).trans (HB3.out.mono (by omega))
  have hs:=HS.out
  have d:=bC (bB hB3 hz1 HB1.out)
  clear c3 f3 c2 f2
  refine bodyPost_ret (v:=.tuple #[.agg #[.int .i64 oa,.int .i64 om,.string os],.int .i64 0]) ?_ rfl ⟨rfl,(HS1.out.below hB3).box (by omega) _ _ _,(HK1.out.trans (KB.below hB3 (by omega))).box (by omega) _ _ _⟩
  simp [results,Tryz.results221,go_sem,d,q7]
theorem apply1S (op:Nat)(h2:2<=op)(h5:op<=5)(v:Pl.V)(hv:inR v.n)(st:List Pl.V)(sb base top:Nat)(w:World)(h:StkW w sb base top (v :: st)):Calls Tryz.prog 221 #[.pointer (some ⟨sb,0,none⟩),.int .i64 ((op+2:Nat):Int)] w fun e w'=>e=.returned (outV (Pl.ap1 op v))/\StkW w' sb base top st/\KB base sb w w':=by
 by_cases h:op=2
 ·exact apply1N op h v hv st sb base top w ‹_›
 by_cases h:op=3
 ·exact apply1O op h v hv st sb base top w ‹_›
 exact apply1I op (by omega) v hv st sb base top w ‹_›
end Go.Proofs.YtojdpjpldokjmaaGreatDoor
namespace Go.Proofs.YtojdpjpldokjmaaGreatDoor.Pl
theorem ranged_err {n:Int}{e:Nat}(h:ranged n=.error e):e=4\/e=5:=by
 unfold ranged at h
 split at h <;> cases h
 exact .inl rfl
theorem reckon_err {op:Nat}{a b:Int}{e:Nat}(h:reckon op a b=.error e):e=4\/e=5:=by
 unfold reckon at h
 split at h
 ·exact ranged_err h
 split at h
 ·exact ranged_err h
 split at h
 ·exact ranged_err h
 split at h
 ·cases h;exact .inr rfl
 split at h
 ·cases h
 ·exact ranged_err h
theorem ap1_err {op:Nat}{v:V}{e:Nat}(h:ap1 op v=.error e):e=4\/e=5:=by
 unfold ap1 neg at h
 split at h
 ·split at h
  ·cases h
  ·exact ranged_err h
 ·split at h <;> cases h
theorem ap2_err {op:Nat}{l r:V}{e:Nat}(h:ap2 op l r=.error e):e=4\/e=5:=by
 unfold ap2 at h
 split at h
 ·cases h
 split at h
 ·cases h
 split at h
 ·exact reckon_err h
 ·cases h
theorem run_end {code:List Ins}{row:List V}{g i:Nat}{st:List V}{x:Out V}(h:mrun code row g i st=some x)(hi:code.length<=i):∃ v st',st=v :: st'/\x=.ok v:=by
 cases g with
 | zero=>simp [mrun] at h
 | succ g =>
  unfold mrun at h
  rw [List.getElem?_eq_none hi] at h
  cases st with
  | nil=>simp at h
  | cons v st=>simp at h;exact ⟨v,st,rfl,h.symm⟩
theorem run_step {code:List Ins}{row:List V}{g i:Nat}{st:List V}{x:Out V}{c:Ins}(h:mrun code row g i st=some x)(hc:code[i]?=some c):∃ g',g=g'+1 /\
 ((c.kind=0/\mrun code row g' (i+1) (c.v :: st)=some x) \/
  (c.kind=1/\c.place<row.length/\mrun code row g' (i+1) (row.getD c.place nul :: st)=some x) \/
  (∃ v st1,st=v :: st1/\(c.kind=2\/c.kind=3)/\mrun code row g' (@ite _ (v=tru (c.kind == 3)) (decV v (tru (c.kind == 3))) c.place (i+1)) st=some x) \/
  (∃ v st1,st=v :: st1/\4<=c.kind/\c.kind<=7/\((∃ e,ap1 (c.kind - 2) v=.error e/\x=.error e)\/∃ u,ap1 (c.kind - 2) v=.ok u/\mrun code row g' (i+1) (u :: st1)=some x)) \/
  (∃ v u st1,st=v :: u :: st1/\8<=c.kind/\((∃ e,ap2 (c.kind - 2) u v=.error e/\x=.error e)\/∃ y,ap2 (c.kind - 2) u v=.ok y/\mrun code row g' (i+1) (y :: st1)=some x))):=by
 cases g with
 | zero=>simp [mrun] at h
 | succ g =>
  refine ⟨g,rfl,?_⟩
  by_cases h0:c.kind=0
  ·rw [step_lit hc h0] at h;exact .inl ⟨h0,h⟩
  by_cases h1:c.kind=1
  ·by_cases hp:c.place<row.length
   ·rw [step_col hc h1 hp] at h;exact .inr (.inl ⟨h1,hp,h⟩)
   ·unfold mrun at h;rw [hc] at h;simp only at h;rw [if_neg h0,if_pos h1,if_neg hp] at h;cases h
  cases st with
  | nil=>unfold mrun at h;rw [hc] at h;simp only at h;rw [if_neg h0,if_neg h1] at h;cases h
  | cons v st1 =>
   by_cases h3:c.kind=2\/c.kind=3
   ·rw [step_jump hc h3] at h
    refine .inr (.inr (.inl ⟨v,st1,rfl,h3,?_⟩))
    split at h
    ·rw [if_pos ‹_›];exact h
    ·rw [if_neg ‹_›];exact h
   by_cases h7:c.kind<=7
   ·rw [step_one hc (by omega) h7] at h
    refine .inr (.inr (.inr (.inl ⟨v,st1,rfl,by omega,h7,?_⟩)))
    cases ha:ap1 (c.kind - 2) v with
    | error e=>rw [ha] at h;simp at h;exact .inl ⟨e,rfl,h.symm⟩
    | ok u=>rw [ha] at h;exact .inr ⟨u,rfl,h⟩
   ·cases st1 with
    | nil=>unfold mrun at h;rw [hc] at h;simp only at h;rw [if_neg h0,if_neg h1,if_neg h3,if_neg h7] at h;cases h
    | cons u st2 =>
     rw [step_two hc (by omega)] at h
     refine .inr (.inr (.inr (.inr ⟨v,u,st2,rfl,by omega,?_⟩)))
     cases ha:ap2 (c.kind - 2) u v with
     | error e=>rw [ha] at h;simp at h;exact .inl ⟨e,rfl,h.symm⟩
     | ok y=>rw [ha] at h;exact .inr ⟨y,rfl,h⟩
end Go.Proofs.YtojdpjpldokjmaaGreatDoor.Pl
namespace Go.Proofs.YtojdpjpldokjmaaGreatDoor
open Go.RowKit Go.Deep
set_option linter.unusedSimpArgs false
set_option linter.unusedVariables false
def insC (c:Pl.Ins):List Value:=[.int .i64 c.kind,.int .i64 c.v.kind,.int .i64 c.v.n,.string ⟨c.v.s.toArray⟩,.int .i64 c.place]
def RowsW {α:Type}(w:World)(hi n:Nat)(f:α->List Value)(xs:List α)(v:Value):Prop :=
 ∃ a cap,v=.slice a xs.length cap/\(xs≠[]->∃ g,a=some ⟨g,0,none⟩/\g<hi/\∀ i c,xs[i]?=some c->∀ j u,(f c)[j]?=some u->w.cell? ⟨g,i*n+j,none⟩=some u)
theorem RowsW.keep {α:Type}{w w':World}{hi n:Nat}{f:α->List Value}{xs:List α}{v:Value}(h:RowsW w hi n f xs v)(hk:∀ k,k<hi->w'.heap[k]?=w.heap[k]?):RowsW w' hi n f xs v:=by
 obtain ⟨a,cap,rfl,h2⟩:=h
 refine ⟨a,cap,rfl,fun hn=>?_⟩
 obtain ⟨g,rfl,hg,h3⟩:=h2 hn
 exact ⟨g,rfl,hg,fun i c hc j u hu=>(World.cell?_of_block (hk g hg)).trans (h3 i c hc j u hu)⟩
theorem RowsW.ins {w:World}{hi:Nat}{code:List Pl.Ins}{v:Value}(h:RowsW w hi 5 insC code v){i:Nat}{c:Pl.Ins}(hc:code[i]?=some c):∃ g cap,v=.slice (some ⟨g,0,none⟩) code.length cap/\g<hi /\
 w.cell? ⟨g,i*5,none⟩=some (.int .i64 c.kind)/\w.cell? ⟨g,i*5+1,none⟩=some (.int .i64 c.v.kind)/\w.cell? ⟨g,i*5+2,none⟩=some (.int .i64 c.v.n)/\w.cell? ⟨g,i*5+3,none⟩=some (.string ⟨c.v.s.toArray⟩)/\w.cell? ⟨g,i*5+4,none⟩=some (.int .i64 c.place):=by
 obtain ⟨a,cap,rfl,h2⟩:=h
 obtain ⟨g,rfl,hg,h3⟩:=h2 (by rintro rfl;simp at hc)
 exact ⟨g,cap,rfl,hg,h3 i c hc 0 _ rfl,h3 i c hc 1 _ rfl,h3 i c hc 2 _ rfl,h3 i c hc 3 _ rfl,h3 i c hc 4 _ rfl⟩
theorem RowsW.val {w:World}{hi:Nat}{row:List Pl.V}{v:Value}(h:RowsW w hi 3 vC row v){i:Nat}(hi':i<row.length):∃ g cap,v=.slice (some ⟨g,0,none⟩) row.length cap/\g<hi /\
 w.cell? ⟨g,i*3,none⟩=some (.int .i64 (row.getD i Pl.nul).kind)/\w.cell? ⟨g,i*3+1,none⟩=some (.int .i64 (row.getD i Pl.nul).n)/\w.cell? ⟨g,i*3+2,none⟩=some (.string ⟨(row.getD i Pl.nul).s.toArray⟩):=by
 obtain ⟨a,cap,rfl,h2⟩:=h
 obtain ⟨g,rfl,hg,h3⟩:=h2 (by rintro rfl;simp at hi')
 have hc:row[i]?=some (row.getD i Pl.nul):=by simp [List.getD,List.getElem?_eq_getElem hi']
 exact ⟨g,cap,rfl,hg,h3 i _ hc 0 _ rfl,h3 i _ hc 1 _ rfl,h3 i _ hc 2 _ rfl⟩
def RunI (w wr:World)(sb base:Nat)(code:List Pl.Ins)(row:List Pl.V)(x:Pl.Out Pl.V)(g i:Nat)(st:List Pl.V):Prop :=
 StkW wr sb base wr.heap.size st/\KB base sb w wr/\(∀ v ∈ st,Pl.okV v)/\st.length+g<=1048576/\Pl.mrun code row g i st=some x
def run0 (w:World)(cv:Value):World:=((w.alloc (.cells #[cv] 204)).alloc (.cells #[.int .i64 0,.int .i64 0,.string ⟨#[]⟩] 34)).alloc (.cells #[.slice none 0 0] 332)
theorem run0_size (w:World)(cv:Value):(run0 w cv).heap.size=w.heap.size+3:=by simp [run0]
theorem run0_below (w:World)(cv:Value):Below w.heap.size w (run0 w cv):=(((Below.refl w.heap.size w).alloc (Nat.le_refl _) _).alloc (by simp) _).alloc (by simp;omega) _
theorem run0_box (w:World)(cv:Value):(run0 w cv).heap[w.heap.size]?=some (.cells #[cv] 204)/\(run0 w cv).heap[w.heap.size+1]?=some (.cells #[.int .i64 0,.int .i64 0,.string ⟨#[]⟩] 34)/\(run0 w cv).heap[w.heap.size+1+1]?=some (.cells #[.slice none 0 0] 332):=by
 refine ⟨bA (bA (blk_new _ _) _) _,bA (blk_new' _ _ _ (by simp)) _,blk_new' _ _ _ (by simp)⟩
theorem RunI.boxes {w wr:World}{cv:Value}{code:List Pl.Ins}{row:List Pl.V}{x:Pl.Out Pl.V}{g i:Nat}{st:List Pl.V}(h:RunI (run0 w cv) wr (w.heap.size+1+1) (w.heap.size+1+1+1) code row x g i st) :
 wr.heap[w.heap.size]?=some (.cells #[cv] 204)/\wr.heap[w.heap.size+1]?=some (.cells #[.int .i64 0,.int .i64 0,.string ⟨#[]⟩] 34)/\w.heap.size+1+1<wr.heap.size/\(∀ k,k<w.heap.size->wr.heap[k]?=w.heap[k]?):=by
 obtain ⟨h1,h2,h3⟩:=run0_box w cv
 have hk:=h.2.1
 have hs:=hk.size
 rw [run0_size] at hs
 refine ⟨by rw [hk.block _ (by omega) (by omega)];exact h1,by rw [hk.block _ (by omega) (by omega)];exact h2,by omega,fun k hlt=>?_⟩
 rw [hk.block k (by omega) (by omega)]
 exact (run0_below w cv).block k hlt
theorem RunI.next {w0 wr w2:World}{sb base:Nat}{code:List Pl.Ins}{row:List Pl.V}{x:Pl.Out Pl.V}{fl i i2:Nat}{st st2:List Pl.V}(h:RunI w0 wr sb base code row x (fl+1) i st)(hk:KB base sb wr w2)(hs:StkW w2 sb base w2.heap.size st2)(hok:∀ v ∈ st2,Pl.okV v)(hl:st2.length<=st.length+1)(hm:Pl.mrun code row fl i2 st2=some x):RunI w0 w2 sb base code row x fl i2 st2 :=
 ⟨hs,h.2.1.trans hk,hok,by have:=h.2.2.2.1;omega,hm⟩
theorem run_below {w w2:World}{cv:Value}(h:KB (w.heap.size+1+1+1) (w.heap.size+1+1) (run0 w cv) w2):Below w.heap.size w w2:=by
 have h0:=run0_below w cv
 exact ⟨h.os.trans h0.os,h.tape.trans h0.tape,h.output.trans h0.output,Nat.le_trans h0.size h.size,fun k hk=>(h.block k (by omega) (by omega)).trans (h0.block k hk)⟩
theorem runM (X:MachLib)(code:List Pl.Ins)(row:List Pl.V)(hc:∀ c ∈ code,Pl.okV c.v/\c.kind<=20)(hcl:code.length<=1048576)(hr:Pl.okRow row)(f:Nat)(hf:f<=1048576)(x:Pl.Out Pl.V)(hx:Pl.mrun code row f 0 []=some x)(cv rv:Value)(w:World)(hcv:RowsW w w.heap.size 5 insC code cv)(hrv:RowsW w w.heap.size 3 vC row rv):Calls Tryz.prog 162 #[.agg #[cv],rv] w fun e w'=>e=.returned (outV x)/\Below w.heap.size w w':=by
 have HC:=Z hcv
 have HR:=Z hrv
 have HOC:=Z hc
 have HOR:=Z hr
 have hcs:∃ a cap,cv=.slice a code.length cap:=by obtain ⟨a,cap,h,_⟩:=hcv;exact ⟨a,cap,h⟩
 have hrs:∃ a cap,rv=.slice a row.length cap:=by obtain ⟨a,cap,h,_⟩:=hrv;exact ⟨a,cap,h⟩
 obtain ⟨ca,cc,rfl⟩:=hcs
 obtain ⟨ra,rc,rfl⟩:=hrs
 have HI:Hid (RunI (run0 w (.slice ca code.length cc)) (run0 w (.slice ca code.length cc)) (w.heap.size+1+1) (w.heap.size+1+1+1) code row x f 0 []):=by
  refine ⟨⟨by omega,by rw [run0_size];omega,Nat.le_refl _,by simp,_,(run0_box w _).2.2,World.ownsRow_nil _ _ _ _,fun k hk=>by cases hk⟩,KB.refl _ _ _,by simp,by simpa using hf,hx⟩
 clear hcv hrv hc hr hx hf
 go_enter Tryz.func162,Tryz.ntmps162
 go_wp2_with fail
 go_loopg [7] f (fun g s7 wr=>∃ i st,s7=.int .i64 ((i:Nat):Int)/\Hid (RunI (run0 w (.slice ca code.length cc)) wr (w.heap.size+1+1) (w.heap.size+1+1+1) code row x g i st))
 case atStart=>exact ⟨0,[],rfl,HI⟩
 case round =>
  obtain ⟨i,st,rfl,HR1⟩:=hrel
  clear HI
  obtain ⟨hb0,hb1,hz,hlow⟩:=HR1.out.boxes
  have c0:=bC hb0 0
  simp at c0
  have HB1:=Z hb1
  have HLow:=Z hlow
  have hz0:w.heap.size<wr.heap.size:=by omega
  have hz1:w.heap.size+1<wr.heap.size:=by omega
  clear hb0 hb1 hlow
  by_cases hi:i<code.length
  ·have hci:code[i]?=some code[i]:=List.getElem?_eq_getElem hi
   have hw1:wrap64 ((i:Int)+1)=i+1:=by unfold wrap64;omega
   obtain ⟨hck,hckk⟩:=HOC.out _ (List.getElem_mem hi)
   generalize code[i]=c at *
   obtain ⟨g,cap,he,hg,e0,e1,e2,e3,e4⟩:=(HC.out.keep HLow.out).ins hci
   cases he
   have hgz:g<wr.heap.size:=by omega
   obtain ⟨fl,rfl,hcase⟩:=Pl.run_step HR1.out.2.2.2.2 hci
   rcases hcase with ⟨hk,hm⟩|⟨hk,hpl,hm⟩|⟨v,st1,rfl,hk,hm⟩|⟨v,st1,rfl,hk4,hk7,hm⟩|⟨v,u,st1,rfl,hk8,hm⟩
   ·have HPu:=Z (fun w' (k:StkW w' (w.heap.size+1+1) (w.heap.size+1+1+1) wr.heap.size st)=>pushS c.v st _ _ _ w' k (by have:=HR1.out.2.2.2.1;omega))
    unfold vV at HPu
    rw [hk] at e0
    go_wp2_with fail
    refine ((U HPu) _ (HR1.out.1.below ((Below.refl wr.heap.size wr).alloc (Nat.le_refl _) _))).mono ?_
    rintro e w2 ⟨rfl,hs2,hk2⟩
    have HN:=Z (HR1.out.next ((KB.below ((Below.refl wr.heap.size wr).alloc (Nat.le_refl _) _) (by omega)).trans hk2) hs2 (by intro y hy;rcases List.mem_cons.1 hy with rfl|hy;exact hck;exact HR1.out.2.2.1 y hy) (by simp) hm)
    clear hs2 hk2
    go_wp2_with fail
    go_roundg fl
    case measure=>omega
    case rel=>exact ⟨i+1,_,by simp,HN⟩
   ·obtain ⟨g2,cap2,he2,hg2,d0,d1,d2⟩:=(HR.out.keep HLow.out).val hpl
    cases he2
    have hok2:=Pl.getD_ok HOR.out c.place
    generalize row.getD c.place Pl.nul=y at *
    have HPu:=Z (fun w' (k:StkW w' (w.heap.size+1+1) (w.heap.size+1+1+1) wr.heap.size st)=>pushS y st _ _ _ w' k (by have:=HR1.out.2.2.2.1;omega))
    unfold vV at HPu
    rw [hk] at e0
    have hg2z:g2<wr.heap.size:=by omega
    go_wp2_with fail
    refine ((U HPu) _ (HR1.out.1.below ((Below.refl wr.heap.size wr).alloc (Nat.le_refl _) _))).mono ?_
    rintro e w2 ⟨rfl,hs2,hk2⟩
    have HN:=Z (HR1.out.next ((KB.below ((Below.refl wr.heap.size wr).alloc (Nat.le_refl _) _) (by omega)).trans hk2) hs2 (by intro y hy;rcases List.mem_cons.1 hy with rfl|hy;exact hok2;exact HR1.out.2.2.1 y hy) (by simp) hm)
    clear hs2 hk2
    go_wp2_with fail
    go_roundg fl
    case measure=>omega
    case rel=>exact ⟨i+1,_,by simp,HN⟩
   ·have HTo:=Z (fun w' (k:StkW w' (w.heap.size+1+1) (w.heap.size+1+1+1) wr.heap.size (v :: st1))=>topS v st1 _ _ _ w' k)
    obtain ⟨bb,hbb⟩:∃ bb,(c.kind == 3)=bb:=⟨_,rfl⟩
    rw [hbb] at hm
    have HTr:=Z (truthM bb)
    have hev:=eqB_V v (Pl.tru bb)
    have heq:=eql_run
    unfold vV at HTo HTr
    by_cases hvt:v=Pl.tru bb
    ·rw [Pl.V.same_yes hvt] at hev
     rw [if_pos hvt] at hm
     clear hvt
     rcases hk with hk|hk
     ·rw [hk] at e0 hbb
      obtain rfl:false=bb:=hbb
      go_wp2_with fail
      go_region_with (first
       | (go_at_call 219;refine ((U HTo) _ (by first|exact HR1.out.1.below ((Below.refl wr.heap.size wr).alloc (Nat.le_refl _) _).drew|exact (HR1.out.1.below (((Below.refl wr.heap.size wr).alloc (Nat.le_refl _) _).drew.trans (HB9.out.mono (by simp [World.drew])))))).mono ?_;rintro e w8 ⟨rfl,hb8⟩;obtain ⟨c8,f8⟩:=bcell hb8;have HB8:=Z hb8;have q8:wr.heap.size<w8.heap.size:=(by have:=hb8.size;(try simp [World.drew] at this);omega);clear hb8)
       | (go_at_call 220;refine (U HTr _).mono ?_;rintro e w9 ⟨rfl,hb9⟩;obtain ⟨c9,f9⟩:=bcell hb9;have HB9:=Z hb9;have q9:wr.heap.size<w9.heap.size:=(by have:=hb9.size;(try simp [World.drew] at this);omega);clear hb9))
      all_goals
       go_wp2_with fail
       first
        | (have hB:=(((Below.refl wr.heap.size wr).alloc (Nat.le_refl _) _).drew.trans (HB8.out.mono (by simp [World.drew]))).trans (HB9.out.mono (by omega))
           have HN:=Z (HR1.out.next (st2:=v :: st1) (KB.below hB (by omega)) (HR1.out.1.below hB).up HR1.out.2.2.1 (by simp) hm)
           go_roundg fl
           case measure=>omega
           case rel=>exact ⟨c.place,_,by simp,HN⟩)
        | (have hB:=(((Below.refl wr.heap.size wr).alloc (Nat.le_refl _) _).drew.trans (HB9.out.mono (by simp [World.drew]))).trans (HB8.out.mono (by omega))
           have HN:=Z (HR1.out.next (st2:=v :: st1) (KB.below hB (by omega)) (HR1.out.1.below hB).up HR1.out.2.2.1 (by simp) hm)
           go_roundg fl
           case measure=>omega
           case rel=>exact ⟨c.place,_,by simp,HN⟩)
     ·rw [hk] at e0 hbb
      obtain rfl:true=bb:=hbb
      go_wp2_with fail
      go_region_with (first
       | (go_at_call 219;refine ((U HTo) _ (by first|exact HR1.out.1.below ((Below.refl wr.heap.size wr).alloc (Nat.le_refl _) _).drew|exact (HR1.out.1.below (((Below.refl wr.heap.size wr).alloc (Nat.le_refl _) _).drew.trans (HB9.out.mono (by simp [World.drew])))))).mono ?_;rintro e w8 ⟨rfl,hb8⟩;obtain ⟨c8,f8⟩:=bcell hb8;have HB8:=Z hb8;have q8:wr.heap.size<w8.heap.size:=(by have:=hb8.size;(try simp [World.drew] at this);omega);clear hb8)
       | (go_at_call 220;refine (U HTr _).mono ?_;rintro e w9 ⟨rfl,hb9⟩;obtain ⟨c9,f9⟩:=bcell hb9;have HB9:=Z hb9;have q9:wr.heap.size<w9.heap.size:=(by have:=hb9.size;(try simp [World.drew] at this);omega);clear hb9))
      all_goals
       go_wp2_with fail
       first
        | (have hB:=(((Below.refl wr.heap.size wr).alloc (Nat.le_refl _) _).drew.trans (HB8.out.mono (by simp [World.drew]))).trans (HB9.out.mono (by omega))
           have HN:=Z (HR1.out.next (st2:=v :: st1) (KB.below hB (by omega)) (HR1.out.1.below hB).up HR1.out.2.2.1 (by simp) hm)
           go_roundg fl
           case measure=>omega
           case rel=>exact ⟨c.place,_,by simp,HN⟩)
        | (have hB:=(((Below.refl wr.heap.size wr).alloc (Nat.le_refl _) _).drew.trans (HB9.out.mono (by simp [World.drew]))).trans (HB8.out.mono (by omega))
           have HN:=Z (HR1.out.next (st2:=v :: st1) (KB.below hB (by omega)) (HR1.out.1.below hB).up HR1.out.2.2.1 (by simp) hm)
           go_roundg fl
           case measure=>omega
           case rel=>exact ⟨c.place,_,by simp,HN⟩)
    ·rw [Pl.V.same_no hvt] at hev
     rw [if_neg hvt] at hm
     clear hvt
     rcases hk with hk|hk
     ·rw [hk] at e0 hbb
      obtain rfl:false=bb:=hbb
      go_wp2_with fail
      go_region_with (first
       | (go_at_call 219;refine ((U HTo) _ (by first|exact HR1.out.1.below ((Below.refl wr.heap.size wr).alloc (Nat.le_refl _) _).drew|exact (HR1.out.1.below (((Below.refl wr.heap.size wr).alloc (Nat.le_refl _) _).drew.trans (HB9.out.mono (by simp [World.drew])))))).mono ?_;rintro e w8 ⟨rfl,hb8⟩;obtain ⟨c8,f8⟩:=bcell hb8;have HB8:=Z hb8;have q8:wr.heap.size<w8.heap.size:=(by have:=hb8.size;(try simp [World.drew] at this);omega);clear hb8)
       | (go_at_call 220;refine (U HTr _).mono ?_;rintro e w9 ⟨rfl,hb9⟩;obtain ⟨c9,f9⟩:=bcell hb9;have HB9:=Z hb9;have q9:wr.heap.size<w9.heap.size:=(by have:=hb9.size;(try simp [World.drew] at this);omega);clear hb9))
      all_goals
       go_wp2_with fail
       first
        | (have hB:=(((Below.refl wr.heap.size wr).alloc (Nat.le_refl _) _).drew.trans (HB8.out.mono (by simp [World.drew]))).trans (HB9.out.mono (by omega))
           have HN:=Z (HR1.out.next (st2:=v :: st1) (KB.below hB (by omega)) (HR1.out.1.below hB).up HR1.out.2.2.1 (by simp) hm)
           go_roundg fl
           case measure=>omega
           case rel=>exact ⟨i+1,_,by simp,HN⟩)
        | (have hB:=(((Below.refl wr.heap.size wr).alloc (Nat.le_refl _) _).drew.trans (HB9.out.mono (by simp [World.drew]))).trans (HB8.out.mono (by omega))
           have HN:=Z (HR1.out.next (st2:=v :: st1) (KB.below hB (by omega)) (HR1.out.1.below hB).up HR1.out.2.2.1 (by simp) hm)
           go_roundg fl
           case measure=>omega
           case rel=>exact ⟨i+1,_,by simp,HN⟩)
     ·rw [hk] at e0 hbb
      obtain rfl:true=bb:=hbb
      go_wp2_with fail
      go_region_with (first
       | (go_at_call 219;refine ((U HTo) _ (by first|exact HR1.out.1.below ((Below.refl wr.heap.size wr).alloc (Nat.le_refl _) _).drew|exact (HR1.out.1.below (((Below.refl wr.heap.size wr).alloc (Nat.le_refl _) _).drew.trans (HB9.out.mono (by simp [World.drew])))))).mono ?_;rintro e w8 ⟨rfl,hb8⟩;obtain ⟨c8,f8⟩:=bcell hb8;have HB8:=Z hb8;have q8:wr.heap.size<w8.heap.size:=(by have:=hb8.size;(try simp [World.drew] at this);omega);clear hb8)
       | (go_at_call 220;refine (U HTr _).mono ?_;rintro e w9 ⟨rfl,hb9⟩;obtain ⟨c9,f9⟩:=bcell hb9;have HB9:=Z hb9;have q9:wr.heap.size<w9.heap.size:=(by have:=hb9.size;(try simp [World.drew] at this);omega);clear hb9))
      all_goals
       go_wp2_with fail
       first
        | (have hB:=(((Below.refl wr.heap.size wr).alloc (Nat.le_refl _) _).drew.trans (HB8.out.mono (by simp [World.drew]))).trans (HB9.out.mono (by omega))
           have HN:=Z (HR1.out.next (st2:=v :: st1) (KB.below hB (by omega)) (HR1.out.1.below hB).up HR1.out.2.2.1 (by simp) hm)
           go_roundg fl
           case measure=>omega
           case rel=>exact ⟨i+1,_,by simp,HN⟩)
        | (have hB:=(((Below.refl wr.heap.size wr).alloc (Nat.le_refl _) _).drew.trans (HB9.out.mono (by simp [World.drew]))).trans (HB8.out.mono (by omega))
           have HN:=Z (HR1.out.next (st2:=v :: st1) (KB.below hB (by omega)) (HR1.out.1.below hB).up HR1.out.2.2.1 (by simp) hm)
           go_roundg fl
           case measure=>omega
           case rel=>exact ⟨i+1,_,by simp,HN⟩)
   ·obtain ⟨op,hop⟩:∃ op,c.kind=op+2:=⟨c.kind - 2,by omega⟩
    rw [hop] at e0 hm
    rw [show op+2 - 2=op by omega] at hm
    have n0:(((op+2:Nat):Int) == 0)=false:=by simp;omega
    have n1:(((op+2:Nat):Int) == 1)=false:=by simp;omega
    have n2:(((op+2:Nat):Int) == 2)=false:=by simp;omega
    have n3:(((op+2:Nat):Int) == 3)=false:=by simp;omega
    have HA:=Z (fun w' (k:StkW w' (w.heap.size+1+1) (w.heap.size+1+1+1) wr.heap.size (v :: st1))=>apply1S op (by omega) (by omega) v (HR1.out.2.2.1 v (by simp)).range st1 _ _ _ w' k)
    rcases hm with ⟨er,hap,rfl⟩|⟨y,hap,hm⟩
    ·have her:(er:Int)≠0:=by have:=Pl.ap1_err hap;omega
     have hern:((er:Int) != 0)=true:=by simpa using her
     rw [hap] at HA
     have HV:Hid (outV (.error er)=.tuple #[.agg #[.int .i64 0,.int .i64 0,.string ⟨#[]⟩],.int .i64 (er:Nat)]):=rfl
     rw [HV.out] at HA
     go_wp2_with fail
     refine ((U HA) _ (HR1.out.1.below ((Below.refl wr.heap.size wr).alloc (Nat.le_refl _) _))).mono ?_
     rintro e w2 ⟨rfl,hs2,hk2⟩
     have HK2:=Z ((KB.below (sb:=w.heap.size+1+1) (base:=w.heap.size+1+1+1) ((Below.refl wr.heap.size wr).alloc (Nat.le_refl _) _) (by omega)).trans hk2)
     have hbb:w2.heap[w.heap.size+1]?=some (.cells #[.int .i64 0,.int .i64 0,.string ⟨#[]⟩] 34):=by rw [HK2.out.block _ (by omega) (by omega)];exact HB1.out
     have d:=bC hbb
     have fz:=bF hbb
     have q1:=lB hbb
     clear hs2 hk2 hbb
     go_wp2_with fail
     have hBw:=run_below (HR1.out.2.1.trans HK2.out)
     refine bodyPost_ret (v:=.tuple #[.agg #[.int .i64 0,.int .i64 0,.string ⟨#[]⟩],.int .i64 (er:Nat)]) ?_ rfl ⟨rfl,(below_boxk hBw (by omega) _ _ _).alloc (by rw [size_set,size_set,size_set];exact hBw.size) _⟩
     simp [results,Tryz.results162,go_sem,d,q1]
    ·have hoky:=Pl.ok_ap1 (HR1.out.2.2.1 v (by simp)) hap
     rw [hap] at HA
     have HV:Hid (outV (.ok y)=.tuple #[.agg #[.int .i64 y.kind,.int .i64 y.n,.string ⟨y.s.toArray⟩],.int .i64 0]):=rfl
     rw [HV.out] at HA
     go_wp2_with fail
     refine ((U HA) _ (HR1.out.1.below ((Below.refl wr.heap.size wr).alloc (Nat.le_refl _) _))).mono ?_
     rintro e w2 ⟨rfl,hs2,hk2⟩
     have hz2:w.heap.size+1+1<w2.heap.size:=by have:=hk2.size;simp at this;omega
     have HS2:=Z hs2
     have HK2:=Z ((KB.below (sb:=w.heap.size+1+1) (base:=w.heap.size+1+1+1) ((Below.refl wr.heap.size wr).alloc (Nat.le_refl _) _) (by omega)).trans hk2)
     have HPu:=Z (fun w' (k:StkW w' (w.heap.size+1+1) (w.heap.size+1+1+1) wr.heap.size st1)=>pushS y st1 _ _ _ w' k (by have:=HR1.out.2.2.2.1;simp at this;omega))
     unfold vV at HPu
     clear hs2 hk2
     go_wp2_with fail
     refine ((U HPu) _ (HS2.out.below ((Below.refl w2.heap.size w2).alloc (Nat.le_refl _) _))).mono ?_
     rintro e w3 ⟨rfl,hs3,hk3⟩
     have HN:=Z (HR1.out.next ((HK2.out.trans (KB.below ((Below.refl w2.heap.size w2).alloc (Nat.le_refl _) _) (by omega))).trans hk3) hs3 (by intro z hy;rcases List.mem_cons.1 hy with rfl|hy;exact hoky;exact HR1.out.2.2.1 z (by simp [hy])) (by simp) hm)
     clear hs3 hk3
     go_wp2_with fail
     go_roundg fl
     case measure=>omega
     case rel=>exact ⟨i+1,_,by simp,HN⟩
   ·obtain ⟨op,hop⟩:∃ op,c.kind=op+2:=⟨c.kind - 2,by omega⟩
    rw [hop] at e0 hm
    rw [show op+2 - 2=op by omega] at hm
    have n0:(((op+2:Nat):Int) == 0)=false:=by simp;omega
    have n1:(((op+2:Nat):Int) == 1)=false:=by simp;omega
    have n2:(((op+2:Nat):Int) == 2)=false:=by simp;omega
    have n3:(((op+2:Nat):Int) == 3)=false:=by simp;omega
    have HA:=Z (fun w' (k:StkW w' (w.heap.size+1+1) (w.heap.size+1+1+1) wr.heap.size (v :: u :: st1))=>apply2S X op (by omega) (by omega) u v st1 (HR1.out.2.2.1 u (by simp)).range (HR1.out.2.2.1 v (by simp)).range _ _ _ w' k)
    rcases hm with ⟨er,hap,rfl⟩|⟨y,hap,hm⟩
    ·have her:(er:Int)≠0:=by have:=Pl.ap2_err hap;omega
     have hern:((er:Int) != 0)=true:=by simpa using her
     rw [hap] at HA
     have HV:Hid (outV (.error er)=.tuple #[.agg #[.int .i64 0,.int .i64 0,.string ⟨#[]⟩],.int .i64 (er:Nat)]):=rfl
     rw [HV.out] at HA
     go_wp2_with fail
     refine ((U HA) _ (HR1.out.1.below ((Below.refl wr.heap.size wr).alloc (Nat.le_refl _) _))).mono ?_
     rintro e w2 ⟨rfl,hs2,hk2⟩
     have HK2:=Z ((KB.below (sb:=w.heap.size+1+1) (base:=w.heap.size+1+1+1) ((Below.refl wr.heap.size wr).alloc (Nat.le_refl _) _) (by omega)).trans hk2)
     have hbb:w2.heap[w.heap.size+1]?=some (.cells #[.int .i64 0,.int .i64 0,.string ⟨#[]⟩] 34):=by rw [HK2.out.block _ (by omega) (by omega)];exact HB1.out
     have d:=bC hbb
     have fz:=bF hbb
     have q1:=lB hbb
     clear hs2 hk2 hbb
     go_wp2_with fail
     have hBw:=run_below (HR1.out.2.1.trans HK2.out)
     refine bodyPost_ret (v:=.tuple #[.agg #[.int .i64 0,.int .i64 0,.string ⟨#[]⟩],.int .i64 (er:Nat)]) ?_ rfl ⟨rfl,(below_boxk hBw (by omega) _ _ _).alloc (by rw [size_set,size_set,size_set];exact hBw.size) _⟩
     simp [results,Tryz.results162,go_sem,d,q1]
    ·have hoky:=Pl.ok_ap2 (HR1.out.2.2.1 u (by simp)) (HR1.out.2.2.1 v (by simp)) hap
     rw [hap] at HA
     have HV:Hid (outV (.ok y)=.tuple #[.agg #[.int .i64 y.kind,.int .i64 y.n,.string ⟨y.s.toArray⟩],.int .i64 0]):=rfl
     rw [HV.out] at HA
     go_wp2_with fail
     refine ((U HA) _ (HR1.out.1.below ((Below.refl wr.heap.size wr).alloc (Nat.le_refl _) _))).mono ?_
     rintro e w2 ⟨rfl,hs2,hk2⟩
     have hz2:w.heap.size+1+1<w2.heap.size:=by have:=hk2.size;simp at this;omega
     have HS2:=Z hs2
     have HK2:=Z ((KB.below (sb:=w.heap.size+1+1) (base:=w.heap.size+1+1+1) ((Below.refl wr.heap.size wr).alloc (Nat.le_refl _) _) (by omega)).trans hk2)
     have HPu:=Z (fun w' (k:StkW w' (w.heap.size+1+1) (w.heap.size+1+1+1) wr.heap.size st1)=>pushS y st1 _ _ _ w' k (by have:=HR1.out.2.2.2.1;simp at this;omega))
     unfold vV at HPu
     clear hs2 hk2
     go_wp2_with fail
     refine ((U HPu) _ (HS2.out.below ((Below.refl w2.heap.size w2).alloc (Nat.le_refl _) _))).mono ?_
     rintro e w3 ⟨rfl,hs3,hk3⟩
     have HN:=Z (HR1.out.next ((HK2.out.trans (KB.below ((Below.refl w2.heap.size w2).alloc (Nat.le_refl _) _) (by omega))).trans hk3) hs3 (by intro z hy;rcases List.mem_cons.1 hy with rfl|hy;exact hoky;exact HR1.out.2.2.1 z (by simp [hy])) (by simp) hm)
     clear hs3 hk3
     go_wp2_with fail
     go_roundg fl
     case measure=>omega
     case rel=>exact ⟨i+1,_,by simp,HN⟩
  ·obtain ⟨v,st',rfl,rfl⟩:=Pl.run_end HR1.out.2.2.2.2 (by omega)
   have HP:=Z (popS v st' _ _ _ wr HR1.out.1)
   unfold vV at HP
   go_wp2_with fail
   refine (U HP).mono ?_
   rintro e w2 ⟨rfl,hs2,hk2⟩
   have HK2:=Z hk2
   have d:=bC (hk2.blk (by omega) HB1.out)
   have fz:=bF (hk2.blk (by omega) HB1.out)
   have q1:=lB (hk2.blk (by omega) HB1.out)
   clear hs2 hk2
   go_wp2_with fail
   refine bodyPost_ret (v:=.tuple #[.agg #[.int .i64 v.kind,.int .i64 v.n,.string ⟨v.s.toArray⟩],.int .i64 0]) ?_ rfl ⟨rfl,below_boxk (run_below (HR1.out.2.1.trans (HK2.out.kb (by omega)))) (by omega) _ _ _⟩
   simp [results,Tryz.results162,go_sem,d,q1]
end Go.Proofs.YtojdpjpldokjmaaGreatDoor
