/- The code's compiler: AND, OR. -/
import Derived.Test.YtojdpjpldokjmaaGreatDoorF11
import Derived.BigRegion
set_option maxHeartbeats 60000000
set_option maxRecDepth 100000
namespace Go.Proofs.YtojdpjpldokjmaaGreatDoor
open Go.RowKit Go.Deep
set_option linter.unusedSimpArgs false
set_option linter.unusedVariables false
theorem take_set_lt {α:Type}(l:List α)(m i:Nat)(u:α)(h:i<m):(l.set i u).take m=(l.take m).set i u:=by
 apply List.ext_getElem?
 intro j
 simp only [List.getElem?_take,List.getElem?_set,List.length_take]
 by_cases hj:j<m
 ·by_cases hij:i=j
  ·subst hij
   by_cases hl:i<l.length
   ·rw [if_pos hj,if_pos rfl,if_pos hl,if_pos rfl,if_pos (by omega)]
   ·rw [if_pos hj,if_pos rfl,if_neg hl,if_pos rfl,if_neg (by omega)]
  ·rw [if_pos hj,if_neg hij,if_neg hij,if_pos hj]
 ·rw [if_neg hj,if_neg (by omega),if_neg hj]
theorem own_set {w:World}{base:Nat}{e:TypeId}{size:Nat}{v:Value}{n g i:Nat}{xs:List Value}(h:w.ownsRow base e size v n xs)(hg:v.ownBlock=some g)(hi:i<n*size)(u:Value):(w.setCell ⟨g,i,none⟩ u).ownsRow base e size v n (xs.set i u):=by
 obtain ⟨h1,h2⟩:=h
 refine ⟨by rw [List.length_set];exact h1,?_⟩
 rcases h2 with ⟨rfl,_⟩|⟨g',cap,cur,rfl,hb,hh,hc,hm,hs,ht⟩
 ·cases hg
 ·simp [Value.ownBlock] at hg;subst hg
  refine .inr ⟨g',cap,cur.setIfInBounds i u,rfl,hb,bS hh i u,hc,hm,by simpa using hs,?_⟩
  rw [Array.toList_setIfInBounds,take_set_lt _ _ _ _ hi,ht]
theorem codeC_set (A:List Pl.Ins)(c:Pl.Ins)(B:List Pl.Ins)(q:Nat):(codeC (A++c :: B)).set (A.length*5+4) (.int .i64 q)=codeC (A++⟨c.kind,c.v,q⟩ :: B):=by
 have e:∀ c:Pl.Ins,codeC (A++c :: B)=codeC A++(insC c++codeC B):=fun c=>by
  rw [codeC_app]
  show codeC A++codeC ([c]++B)=_
  rw [codeC_app,codeC_one]
 rw [e,e,List.set_append_right _ _ (by rw [codeC_len];omega),codeC_len]
 rw [show A.length*5+4 - A.length*5=4 by omega]
 rfl
theorem CmpW.set {w:World}{cb:Nat}{P:Nat->Prop}{cols:List Pl.Col}{A B:List Pl.Ins}{c:Pl.Ins}(h:CmpW w cb P cols (A++c :: B))(q:Nat):∃ g cap cv,w.heap[cb]?=some (.cells #[cv,.slice (some ⟨g,0,none⟩) (A++c :: B).length cap] 362)/\g<w.heap.size/\w.frozen? ⟨g,A.length*5+4,none⟩=false/\(∃ u,w.cell? ⟨g,A.length*5+4,none⟩=some u) /\
 CmpW (w.setCell ⟨g,A.length*5+4,none⟩ (.int .i64 q)) cb P cols (A++⟨c.kind,c.v,q⟩ :: B)/\KP P w (w.setCell ⟨g,A.length*5+4,none⟩ (.int .i64 q)):=by
 obtain ⟨h1,h2,h3,hr0,hr,cv,v,h5,hcv,h6,h7⟩:=h
 obtain ⟨g,cap,cur,rfl,hb,hh,hc,hm,hs,ht⟩:∃ g cap cur,v=.slice (some ⟨g,0,none⟩) (A++c :: B).length cap/\cb+1<=g/\w.heap[g]?=some (.cells cur 335 (0,0))/\(A++c :: B).length<=cap/\cap<=maxLen/\cur.size=cap*5/\cur.toList.take ((A++c :: B).length*5)=codeC (A++c :: B):=by
  rcases h6.2 with ⟨_,h0⟩|h0
  ·simp at h0
  ·exact h0
 have hg:=lB hh
 have hlen:A.length*5+4<(A++c :: B).length*5:=by simp;omega
 have hset:KP P w (w.setCell ⟨g,A.length*5+4,none⟩ (.int .i64 q)):=(KP.refl P w).set (fun hp=>h7 g rfl hp) _
 refine ⟨g,cap,cv,h5,hg,bF hh _,?_,?_,hset⟩
 ·refine ⟨_,(bC hh _).trans (Array.getElem?_eq_getElem ?_)⟩
  have:(A++c :: B).length*5<=cap*5:=Nat.mul_le_mul_right _ hc
  omega
 ·refine ⟨fun k hp=>⟨by rw [size_set];exact (h1 k hp).1,(h1 k hp).2⟩,h2,by simpa using h3,hr0,hr.keep (hset.block _ (h2 _ hr0)),cv,.slice (some ⟨g,0,none⟩) (A++c :: B).length cap,?_,hcv.keep (fun k hk=>hset.block k (h2 k hk)),?_,?_⟩
  ·exact blk_set_ne h5 (by omega) _ _
  ·have:=own_set h6 (g:=g) rfl hlen (.int .i64 q)
   rw [codeC_set] at this
   simpa using this
  ·intro k hk hp
   exact h7 k hk hp
theorem KP.drew {P:Nat->Prop}{a b:World}(h:KP P a b):KP P a b.drew:=⟨h.os,h.tape,h.output,h.size,h.block⟩
theorem CmpW.drew {w:World}{cb:Nat}{P:Nat->Prop}{cols:List Pl.Col}{code:List Pl.Ins}(h:CmpW w cb P cols code):CmpW w.drew cb P cols code:=h
theorem CmpW.box {w:World}{cb:Nat}{P:Nat->Prop}{cols:List Pl.Col}{code:List Pl.Ins}(h:CmpW w cb P cols code):∃ cv a c,w.heap[cb]?=some (.cells #[cv,.slice a code.length c] 362):=by
 obtain ⟨_,_,_,_,_,cv,v,h5,_,h6,_⟩:=h
 rcases h6.2 with ⟨rfl,h0⟩|⟨g,cap,cur,rfl,_⟩
 ·exact ⟨cv,none,0,by rw [h0];exact h5⟩
 ·exact ⟨cv,_,_,h5⟩
theorem cLogicS {a1 a2:Nat}{p:Pl.Pay}{l r:Pl.T}(h17:17<=p.op)(h18:p.op<=18)(IHl:ValS 251 l)(IHr:ValS 251 r) :
 ∀ cols code cb P w v,cols.length<=1000->CmpW w cb P cols code->TrW w cb (.node a1 a2 p l r) v->code.length+2*Pl.sz (.node a1 a2 p l r)<=1048576->Calls Tryz.prog 287 #[.pointer (some ⟨cb,0,none⟩),v,.int .i64 ((p.op - 15:Nat):Int)] w (PostCV w cb P cols code (.node a1 a2 p l r)):=by
 intro cols code cb P w v hcl hc ht hl
 obtain ⟨n,vl,vr,rfl,hn,hb,hL,hR⟩:=ht
 have hcb:=hc.lt
 have hnz:n<w.heap.size:=by omega
 have c0:=bC hb 0
 have c6:=bC hb 6
 simp at c0 c6
 rw [Pl.sz] at hl
 obtain ⟨kk,hkk⟩:∃ kk:Nat,p.op - 15=kk:=⟨_,rfl⟩
 rw [hkk]
 have HIH:=Z (IHl cols code cb P w vl hcl hc hL (by omega))
 have HIR:=Z (fun code' w' hc' ht' hl'=>IHr cols code' cb P w' vr hcl hc' ht' hl')
 have HE:=Z (fun w' code' (k:CmpW w' cb P cols code') (hl':code'.length+1<=1048576)=>emitS ⟨kk,Pl.nul,0⟩ cols code' cb P w' k hl')
 have HB:=Z hb
 have HP:=Z hc.2.1
 have HRt:=Z hR
 have HS:Hid (Pl.sz (.node a1 a2 p l r)=Pl.sz l+Pl.sz r+1):=by unfold Hid;rw [Pl.sz]
 have HT:Hid (Pl.tc cols (.node a1 a2 p l r)=match Pl.tc cols l with|.error e=>.error e|.ok a=>match Pl.tc cols r with|.error e=>.error e|.ok b=>Pl.fit p.op a b):=by
  unfold Hid
  rw [Pl.tc,if_neg (by omega),if_neg (by omega)]
  cases Pl.tc cols l with
  | error e=>rfl
  | ok a=>simp only;rw [if_neg (by omega)];cases Pl.tc cols r <;> rfl
 have HG:Hid (Pl.gen cols code.length (.node a1 a2 p l r)=Pl.gen cols code.length l++(⟨kk,Pl.nul,code.length+(Pl.gen cols code.length l).length+1+(Pl.gen cols (code.length+(Pl.gen cols code.length l).length+1) r).length+1⟩ :: (Pl.gen cols (code.length+(Pl.gen cols code.length l).length+1) r++[⟨p.op+2,Pl.nul,0⟩]))):=by
  unfold Hid
  rw [Pl.gen,if_neg (by omega),if_neg (by omega),if_neg (by omega),if_neg (by omega),hkk]
 have h2op:2<=p.op:=by omega
 clear hc hb IHl IHr hL hR hkk h17
 cases htl:Pl.tc cols l with
 | error er =>
  have her:((er:Int) != 0)=true:=by have:=Pl.tc_err htl;simp;omega
  rw [htl] at HT
  unfold PostCV at HIH ⊢
  rw [htl] at HIH
  rw [HT.out]
  simp only [outI] at HIH ⊢
  go_enter Tryz.func287,Tryz.ntmps287
  go_wp2_with fail
  refine (U HIH).mono ?_
  rintro e w1 ⟨rfl,hk1,code',hc1,hlen,_⟩
  have HK1:=Z hk1
  have HC1:=Z hc1
  clear hk1 hc1
  go_wp2_with fail
  exact bodyPost_ret (by simp [results,Tryz.results287,go_sem]) rfl ⟨rfl,HK1.out,code',HC1.out,by rw [HS.out];omega,fun ty h=>by cases h⟩
 | ok a =>
  rw [htl] at HT
  unfold PostCV at HIH HIR ⊢
  rw [htl] at HIH
  rw [HT.out]
  simp only [outI] at HIH
  cases htr:Pl.tc cols r with
  | error er =>
   have her:((er:Int) != 0)=true:=by have:=Pl.tc_err htr;simp;omega
   rw [htr] at HIR
   simp only [outI] at HIR ⊢
   unfold insV at HE
   simp only [Pl.nul] at HE
   go_enter Tryz.func287,Tryz.ntmps287
   go_wp2_with fail
   refine (U HIH).mono ?_
   rintro e w1 ⟨rfl,hk1,code',hc1,hlen,hcode⟩
   have HK1:=Z hk1
   have hb1:=hk1.blk (HP.out n hn) HB.out
   have hz1:=lB hb1
   have HB1:=Z hb1
   obtain ⟨cv1,sa,sc,hx1⟩:=hc1.box
   have x1:=bC hx1 1
   simp at x1
   have hy1:=lB hx1
   have HE1:=Z (U HE w1 code' hc1 (by omega))
   clear hk1 hc1 hcode hb1 hx1
   go_wp2_with fail
   refine (U HE1).mono ?_
   rintro e w2 ⟨rfl,hc2,hk2⟩
   have HK2:=Z (HK1.out.trans hk2)
   have hb2:=hk2.blk (HP.out n hn) HB1.out
   have d7:=bC hb2 7
   simp at d7
   have hz2:=lB hb2
   have HR2:=Z (U HIR _ w2 hc2 (HK2.out.tr HP.out HRt.out) (by simp;omega))
   clear hk2 hc2 hb2 HIR HE HE1
   go_wp2_with fail
   refine (U HR2).mono ?_
   rintro e w3 ⟨rfl,hk3,code3,hc3,hlen3,_⟩
   have HK3:=Z (HK2.out.trans hk3)
   have HC3:=Z hc3
   clear hk3 hc3
   go_wp2_with fail
   exact bodyPost_ret (by simp [results,Tryz.results287,go_sem]) rfl ⟨rfl,HK3.out,code3,HC3.out,by rw [HS.out];simp at hlen3;omega,fun ty h=>by cases h⟩
  | ok b =>
   rw [htr] at HIR
   simp only [outI] at HIR
   have HF:=Z (fun w' code' (k:CmpW w' cb P cols code') (hl':code'.length+1<=1048576)=>finishS p.op a b h2op h18 cols code' cb P w' k hl')
   obtain ⟨x,y,hxy⟩:=outI_form (Pl.fit p.op a b)
   simp only
   rw [hxy] at HF ⊢
   clear hxy
   unfold insV at HE
   simp only [Pl.nul] at HE
   go_enter Tryz.func287,Tryz.ntmps287
   go_wp2_with fail
   refine (U HIH).mono ?_
   rintro e w1 ⟨rfl,hk1,code',hc1,hlen,hcode⟩
   have HK1:=Z hk1
   have HCo:=Z (hcode a rfl)
   have hb1:=hk1.blk (HP.out n hn) HB.out
   have hz1:=lB hb1
   have HB1:=Z hb1
   obtain ⟨cv1,sa,sc,hx1⟩:=hc1.box
   have x1:=bC hx1 1
   simp at x1
   have hy1:=lB hx1
   have HE1:=Z (U HE w1 code' hc1 (by omega))
   clear hk1 hc1 hcode hb1 hx1
   go_wp2_with fail
   refine (U HE1).mono ?_
   rintro e w2 ⟨rfl,hc2,hk2⟩
   have HK2:=Z (HK1.out.trans hk2)
   have hb2:=hk2.blk (HP.out n hn) HB1.out
   have d7:=bC hb2 7
   simp at d7
   have hz2:=lB hb2
   have HB2:=Z hb2
   have HR2:=Z (U HIR _ w2 hc2 (HK2.out.tr HP.out HRt.out) (by simp;omega))
   clear hk2 hc2 hb2 HIR HE HE1
   go_wp2_with fail
   refine (U HR2).mono ?_
   rintro e w3 ⟨rfl,hk3,code3,hc3,hlen3,hcode3⟩
   have HK3:=Z (HK2.out.trans hk3)
   have HCd:=Z (hcode3 b rfl)
   have hb3:=hk3.blk (HP.out n hn) HB2.out
   have d0:=bC hb3 0
   simp at d0
   have hz3:=lB hb3
   have HF3:=Z (U HF w3 code3 hc3 (by simp at hlen3;omega))
   have hl3:code3.length+1<=code.length+2*(Pl.sz l+Pl.sz r+1):=by simp at hlen3;omega
   clear hk3 hc3 hb3 hcode3 HR2 HF
   go_wp2_with fail
   refine (U HF3).mono ?_
   rintro e w4 ⟨rfl,hc4,hk4⟩
   have HK4:=Z (HK3.out.trans hk4)
   have e4:code3++finL p.op a b=code'++(⟨kk,Pl.nul,0⟩:Pl.Ins) :: (Pl.gen cols (code'++[(⟨kk,Pl.nul,0⟩:Pl.Ins)]).length r++finL p.op a b):=by
    rw [HCd.out];simp [Pl.nul]
   rw [e4] at hc4
   obtain ⟨T,hT⟩:∃ T,(Pl.gen cols (code'++[(⟨kk,Pl.nul,0⟩:Pl.Ins)]).length r++finL p.op a b)=T:=⟨_,rfl⟩
   rw [hT] at hc4
   have HTl:=Z hT
   have hTl:code'.length+(T.length+1)=code3.length+(finL p.op a b).length:=by
    have:=congrArg List.length e4
    rw [hT] at this
    simpa using this.symm
   obtain ⟨q,hq⟩:∃ q,(code'++(⟨kk,Pl.nul,0⟩:Pl.Ins) :: T).length=q:=⟨_,rfl⟩
   obtain ⟨g,cap,cv4,hbx,hg4,hfz,⟨u4,hu4⟩,hcm,hkp⟩:=hc4.set q
   rw [hq] at hbx
   have y1:=bC hbx 1
   simp at y1
   have hy4:=lB hbx
   have HCM:=Z hcm
   have HKP:=Z (HK4.out.trans hkp)
   have hq2:code'.length<q:=by rw [<- hq];simp
   have HQ:=Z hq
   clear hc4 hk4 hbx hcm hkp e4 hT hq HF3
   go_wp2_with fail
   go_region
   go_wp2_with fail
   have hfl:=finL_len p.op a b
   refine bodyPost_ret (by simp [results,Tryz.results287,go_sem]) rfl ⟨rfl,HKP.out.drew,_,HCM.out.drew,?_,fun ty h=>?_⟩
   ·rw [HS.out];simp;omega
   ·have hT2:T=Pl.gen cols (code'++[(⟨kk,Pl.nul,0⟩:Pl.Ins)]).length r++[⟨p.op+2,Pl.nul,0⟩]:=by
     rw [<- HTl.out]
     unfold finL
     rw [h]
    have hcl:code'.length=code.length+(Pl.gen cols code.length l).length:=by rw [HCo.out];simp
    rw [HG.out,<- HQ.out,hT2]
    simp only [List.length_append,List.length_cons,List.length_nil,hcl,Nat.zero_add]
    rw [HCo.out,List.append_assoc]
    have hX:∀ x y:Nat,x+(y+1+1)=x+1+y+1:=fun x y=>by omega
    rw [hX]
end Go.Proofs.YtojdpjpldokjmaaGreatDoor
