/- The document's Save. -/
import Derived.Test.YtojdpjpldokjmaaGreatDoorF28
import Derived.Test.YtojdpjpldokjmaaGreatDoorF20
import Derived.Test.YtojdpjpldokjmaaGreatDoorF22
import Derived.BigRegion
import Derived.Test.YtojdpjpldokjmaaGreatDoorF27
set_option maxHeartbeats 60000000
set_option maxRecDepth 100000
namespace Go.Proofs.YtojdpjpldokjmaaGreatDoor.Pl
theorem sepJoin_snoc (sep:List UInt8):∀ (l:List (List UInt8))(x:List UInt8),sepJoin sep (l++[x])=if l=[] then x else sepJoin sep l++sep++x
 | [],x=>rfl
 | [y],x=>by simp [sepJoin]
 | y :: z :: r,x=>by
  have:=sepJoin_snoc sep (z :: r) x
  simp only [List.cons_append] at this ⊢
  rw [sepJoin,this]
  simp [sepJoin]
def curL (head:List UInt8)(xs:List (List UInt8))(k:Nat):List UInt8:=head++sepJoin [44,32] (xs.take k)
theorem curL_zero (head:List UInt8)(xs:List (List UInt8)):curL head xs 0=head:=by simp [curL,sepJoin]
theorem curL_one {head:List UInt8}{xs:List (List UInt8)}{x:List UInt8}(h:xs[0]?=some x):curL head xs 1=curL head xs 0++x:=by
 unfold curL
 rw [List.take_add_one,h]
 simp [sepJoin]
theorem curL_step {head:List UInt8}{xs:List (List UInt8)}{k:Nat}{x:List UInt8}(h0:0<k)(h:xs[k]?=some x):curL head xs (k+1)=curL head xs k++[44,32]++x:=by
 unfold curL
 rw [List.take_add_one,h]
 have hne:xs.take k≠[]:=by
  intro e
  have hl:=congrArg List.length e
  have:=(List.getElem?_eq_some_iff.1 h).1
  rw [List.length_take] at hl
  simp only [List.length_nil] at hl
  omega
 rw [Option.toList_some,sepJoin_snoc,if_neg hne]
 simp
theorem curL_len {head:List UInt8}{xs:List (List UInt8)}(hh:head.length<=100)(hx:∀ x ∈ xs,x.length<=100)(hn:xs.length<=5)(k:Nat):(curL head xs k).length<=700:=by
 unfold curL
 have:=sepJoin_len (m:=100) (xs.take k) (fun x hx'=>hx x (List.mem_of_mem_take hx'))
 simp only [List.length_append,List.length_take] at this ⊢
 have h2:min k xs.length*(100+2)<=5*102:=Nat.mul_le_mul (by omega) (by omega)
 omega
def headC (name:List UInt8):List UInt8:=[67,82,69,65,84,69,32,84,65,66,76,69,32]++name++[32,40]
def headI (name:List UInt8):List UInt8:=[73,78,83,69,82,84,32,73,78,84,79,32]++name++[32,86,65,76,85,69,83,32,40]
theorem headLine_cur (t:Tab):headLine t=curL (headC t.name) (t.cols.map colText) t.cols.length++[41,10]:=by
 unfold headLine curL brackets headC
 rw [List.take_of_length_le (by simp)]
 simp
theorem rowLine_cur (name:List UInt8)(r:List V):rowLine name r=curL (headI name) (r.map valText) r.length++[41,10]:=by
 unfold rowLine curL brackets headI
 rw [List.take_of_length_le (by simp)]
 simp
end Go.Proofs.YtojdpjpldokjmaaGreatDoor.Pl
namespace Go.Proofs.YtojdpjpldokjmaaGreatDoor
open Go.RowKit Go.Deep
set_option linter.unusedSimpArgs false
set_option linter.unusedVariables false
theorem cat3' (a b c:List UInt8):((({ data:=a.toArray }:ByteArray)++{ data:=b.toArray })++{ data:=c.toArray })=⟨(a++b++c).toArray⟩:=by rw [cat2',cat2']
theorem RTabW.row_cell {w:World}{M:Nat->Prop}{l:Lay}{t:Pl.Tab}(h:RTabW w M l t){m:Nat}{r:List Pl.V}(hm:t.rows[m]?=some r):∃ g gc u ra rc,l.rv=.slice (some ⟨g,0,none⟩) t.rows.length gc/\g<w.heap.size/\w.cell? ⟨g,m,none⟩=some u/\u=.slice ra r.length rc/\∀ (k:Nat)(v:Pl.V),r[k]?=some v->∃ q,ra=some ⟨q,0,none⟩/\q<w.heap.size/\w.cell? ⟨q,k*3,none⟩=some (.int .i64 v.kind)/\w.cell? ⟨q,k*3+1,none⟩=some (.int .i64 v.n)/\w.cell? ⟨q,k*3+2,none⟩=some (.string ⟨v.s.toArray⟩):=by
 have hlen:l.us.length=t.rows.length:=by have:=h.rows.1;omega
 have hml:=getElem?_lt hm
 have hu:l.us[m]?=some (l.us[m]'(by omega)):=List.getElem?_eq_getElem _
 generalize l.us[m]'(by omega)=u at *
 obtain ⟨g,gc,e,_,hg,hc⟩:=own_cell h.rows hu
 obtain ⟨hr1,_⟩:=h.each m r u hm hu
 obtain ⟨ra,rc,rfl,_⟩:=own_cap hr1
 refine ⟨g,gc,_,ra,rc,e,hg,hc,rfl,fun k v hv=>?_⟩
 have hat:∀ j x,(vC v)[j]?=some x->(rowC r)[k*3+j]?=some x:=by
  intro j x hj
  have hk:=getElem?_lt hv
  have h1:rowC r=rowC (r.take k)++(vC v++rowC (r.drop (k+1))):=by
   have h2:r=r.take k++([v]++r.drop (k+1)):=by
    have:=List.drop_eq_getElem_cons hk
    rw [List.getElem?_eq_getElem hk] at hv
    cases hv
    rw [List.singleton_append,<- this,List.take_append_drop]
   conv=>lhs;rw [h2]
   rw [rowC_app,rowC_app,rowC_one]
  have h3:(rowC (r.take k)).length=k*3:=by rw [rowC_len,List.length_take];congr 1;omega
  rw [h1,List.getElem?_append_right (by omega),h3,show k*3+j - k*3=j by omega,List.getElem?_append_left (getElem?_lt hj)]
  exact hj
 obtain ⟨q,_,e0,_,hq,c0⟩:=own_cell hr1 (hat 0 _ rfl)
 obtain ⟨q1,_,e1,_,_,c1⟩:=own_cell hr1 (hat 1 _ rfl)
 obtain ⟨q2,_,e2,_,_,c2⟩:=own_cell hr1 (hat 2 _ rfl)
 cases e0
 cases e1
 cases e2
 exact ⟨q,rfl,hq,c0,c1,c2⟩
theorem saveR (w:World)(M:Nat->Prop)(b:Nat)(lay:List Lay)(D:Pl.DB)(h:RDbW w M b lay D) :
 Calls Tryz.prog 56 #[.pointer (some ⟨b,0,none⟩)] w fun e w'=>e=.returned (.string ⟨(Pl.save D).toArray⟩)/\Below w.heap.size w w':=by
 obtain ⟨ta,tc,hbx,hat⟩:=h.slice
 have hb:=lB hbx
 have HA:=Z hat
 have HW:=Z h
 have HBx:=Z hbx
 have hD:D.length<=6:=h.ok.1
 generalize ho:Pl.save D=out
 have HO:=Z ho
 have HLs:=Z (fun i=>Pl.tabs_len h.ok i)
 clear h hbx hat ho
 go_enter Tryz.func56,Tryz.ntmps56
 go_wp2_with fail
 go_loopw [3,4] (fun s3 s4 wr=>∃ i:Nat,i<=D.length/\s3=.string ⟨(((D.take i).map Pl.tabText).flatten).toArray⟩/\s4=.int .i64 (i:Nat)/\Hid (Below w.heap.size w wr)) (fun _ s4 _=>D.length - (intOf s4).toNat)
 case atStart=>exact ⟨0,Nat.zero_le _,by simp,rfl,Below.refl _ _⟩
 case round =>
  obtain ⟨i,hi,rfl,rfl,HB⟩:=hrel
  have hbI:=HB.out
  have hbxI:=bB hbI hb HBx.out
  have c0:=bC hbxI 0
  simp at c0
  have hbz:=lB hbxI
  have hol:=HLs.out i
  by_cases hlt:i<D.length
  ·have hdi:D[i]?=some D[i]:=List.getElem?_eq_getElem hlt
   have hli:lay[i]?=some (lay[i]'(by rw [HW.out.len];exact hlt)):=List.getElem?_eq_getElem _
   have HTk:Hid (((D.take (i+1)).map Pl.tabText).flatten=((D.take i).map Pl.tabText).flatten++Pl.tabText D[i]):=by
    unfold Hid
    rw [List.take_add_one,hdi,List.map_append,List.flatten_append]
    simp
   have HOT:=Z (HW.out.ok.2 _ (List.getElem_mem hlt))
   generalize lay[i]'(by rw [HW.out.len];exact hlt)=l at *
   generalize D[i]=t at *
   generalize ((D.take i).map Pl.tabText).flatten=acc at *
   obtain ⟨g,rfl,hg,e0⟩:=HA.out i l hli
   have hgI:=Nat.lt_of_lt_of_le hg hbI.size
   have e0':=(hbI.cell (p:=⟨g,i,none⟩) hg).trans e0
   unfold layPtr at e0'
   have HT:=Z (HW.out.tabs i l t hli hdi)
   have hT:=HT.out
   obtain ⟨cv,hbl,⟨cs0,hcv,hfl⟩,_⟩:=hT.blk
   have HBl:=Z hbl
   have hlz0:=lB hbl
   have HCv:=Z hcv
   have HFl:=Z hfl
   obtain ⟨ca,cc,rfl,_⟩:=own_cap hcv
   obtain ⟨ra,rc,hrv,_⟩:=own_cap hT.rows
   have HRv:=Z hrv
   have hblI:=bB hbI hlz0 hbl
   have n0:=bC hblI 0
   simp at n0
   have hlzI:=lB hblI
   have hnl:=HOT.out.name
   have hcn:=HOT.out.ncols
   have hrn:=HOT.out.nrows
   clear hT hbl hcv hfl hrv hblI hbI hbxI e0 hg hdi hli
   obtain ⟨w0,rfl⟩:∃ w0:World,w0=wr:=⟨_,rfl⟩
   have HHd:Hid (({ data:=#[67,82,69,65,84,69,32,84,65,66,76,69,32] }:ByteArray)++{ data:=t.name.toArray }++{ data:=#[32,40] }=⟨(Pl.curL (Pl.headC t.name) (t.cols.map Pl.colText) 0).toArray⟩):=by
    unfold Hid
    rw [Pl.curL_zero]
    exact cat3' [67,82,69,65,84,69,32,84,65,66,76,69,32] t.name [32,40]
   have HCl:=Z (fun k=>Pl.curL_len (head:=Pl.headC t.name) (xs:=t.cols.map Pl.colText) (by simp [Pl.headC];omega) (fun x hx=>by obtain ⟨c,hc,rfl⟩:=List.mem_map.1 hx;exact Pl.colText_len (HOT.out.cols c hc).2) (by simp;omega) k)
   go_upto_region 7 with fail
   rw [HHd.out]
   clear HHd
   go_wp2_with fail
   go_loopw [6,7] (fun s6 s7 wr=>∃ k:Nat,k<=t.cols.length/\s6=.string ⟨(Pl.curL (Pl.headC t.name) (t.cols.map Pl.colText) k).toArray⟩/\s7=.int .i64 (k:Nat)/\Hid (Below w.heap.size w wr)) (fun _ s7 _=>t.cols.length - (intOf s7).toNat)
   case atStart=>exact ⟨0,Nat.zero_le _,rfl,rfl,HB.out⟩
   case round =>
    obtain ⟨k,hk,rfl,rfl,HBk⟩:=hrel
    have hbK:=HBk.out
    have hblK:=bB hbK hlz0 HBl.out
    have m1:=bC hblK 1
    have m2:=bC hblK 2
    have m0:=bC hblK 0
    simp at m0 m1 m2
    have hlzK:=lB hblK
    have hcl:=HCl.out k
    by_cases hlk:k<t.cols.length
    ·have hck:t.cols[k]?=some t.cols[k]:=List.getElem?_eq_getElem hlk
     have hcok:=HOT.out.cols _ (List.getElem_mem hlk)
     generalize t.cols[k]=c at *
     obtain ⟨gc,_,he,_,hgc,e1⟩:=own_cell (own_below hbK HCv.out) (HFl.out k c hck).1
     cases he
     obtain ⟨_,_,he,_,_,e2⟩:=own_cell (own_below hbK HCv.out) (HFl.out k c hck).2
     cases he
     have hki:((k:Nat):Int)<((t.cols.length:Nat):Int):=by omega
     have hxk:(t.cols.map Pl.colText)[k]?=some (Pl.colText c):=by rw [List.getElem?_map,hck];rfl
     obtain ⟨bs,HBs,hbl⟩:∃ bs:List UInt8,Hid (bs=(if 0<k then Pl.curL (Pl.headC t.name) (t.cols.map Pl.colText) k++[44,32] else Pl.curL (Pl.headC t.name) (t.cols.map Pl.colText) k)/\Pl.curL (Pl.headC t.name) (t.cols.map Pl.colText) (k+1)=bs++c.1++[32]++Pl.typeText c.2)/\bs.length<=800:=by
      refine ⟨_,⟨rfl,?_⟩,?_⟩
      ·split
       ·rename_i h0
        rw [Pl.curL_step h0 hxk]
        simp [Pl.colText]
       ·obtain rfl:k=0:=by omega
        rw [Pl.curL_one hxk]
        simp [Pl.colText]
      ·split
       ·simp;omega
       ·omega
     generalize hcur:Pl.curL (Pl.headC t.name) (t.cols.map Pl.colText) k=cur at *
     generalize hnxt:Pl.curL (Pl.headC t.name) (t.cols.map Pl.colText) (k+1)=nxt at *
     have HNx:=Z hnxt
     have HCat:=Z (cat2' cur [44,32])
     obtain ⟨hty,hnm⟩:=hcok
     have HTy:Hid (nxt=bs++c.1++[32]++Pl.typeText c.2):=HBs.out.2
     clear hbK hblK hck hxk hcur hnxt
     have HCut:Hid (∀ x:List UInt8,x=Pl.typeText c.2->(({ data:=bs.toArray }:ByteArray)++{ data:=c.1.toArray })++{ data:=#[32] }++{ data:=x.toArray }=⟨nxt.toArray⟩):=fun x hx=>by
      rw [HTy.out,hx]
      exact (congrArg (·++(⟨_⟩:ByteArray)) (cat3' bs c.1 [32])).trans (cat2' _ _)
     have HBn:Hid (∀ o,Below w.heap.size w (wr.alloc o).drew):=fun o=>(HBk.out.alloc HBk.out.size o).drew
     clear e0' c0 m0 m2 n0 HTy
     by_cases h0:0<k
     ·have h0i:(0:Int)<(k:Int):=by omega
      have hbs:cur++[44,32]=bs:=by have:=HBs.out.1;rw [if_pos h0] at this;exact this.symm
      rw [hbs] at HCat
      clear hbs HBs
      go_upto_region 12 with fail
      rw [HCat.out]
      clear HCat
      rcases hty with h|h|h
      ·rw [h] at e2
       have HF:=Z (HCut.out [73,78,84] (by rw [h];rfl))
       clear h HCut
       go_region
       all_goals go_wp2_with fail
       all_goals exact ⟨⟨k+1,by omega,by rw [HNx.out];exact congrArg Value.string HF.out,by go_num,HBn.out _⟩,by simp [intOf];omega⟩
      ·rw [h] at e2
       have HF:=Z (HCut.out [84,69,88,84] (by rw [h];rfl))
       clear h HCut
       go_region
       all_goals go_wp2_with fail
       all_goals exact ⟨⟨k+1,by omega,by rw [HNx.out];exact congrArg Value.string HF.out,by go_num,HBn.out _⟩,by simp [intOf];omega⟩
      ·rw [h] at e2
       have HF:=Z (HCut.out [66,79,79,76] (by rw [h];rfl))
       clear h HCut
       go_region
       all_goals go_wp2_with fail
       all_goals exact ⟨⟨k+1,by omega,by rw [HNx.out];exact congrArg Value.string HF.out,by go_num,HBn.out _⟩,by simp [intOf];omega⟩
     ·have h0i:¬ (0:Int)<(k:Int):=by omega
      have hbs:cur=bs:=by have:=HBs.out.1;rw [if_neg h0] at this;exact this.symm
      subst hbs
      clear HBs HCat
      go_upto_region 12 with fail
      rcases hty with h|h|h
      ·rw [h] at e2
       have HF:=Z (HCut.out [73,78,84] (by rw [h];rfl))
       clear h HCut
       go_region
       all_goals go_wp2_with fail
       all_goals exact ⟨⟨k+1,by omega,by rw [HNx.out];exact congrArg Value.string HF.out,by go_num,HBn.out _⟩,by simp [intOf];omega⟩
      ·rw [h] at e2
       have HF:=Z (HCut.out [84,69,88,84] (by rw [h];rfl))
       clear h HCut
       go_region
       all_goals go_wp2_with fail
       all_goals exact ⟨⟨k+1,by omega,by rw [HNx.out];exact congrArg Value.string HF.out,by go_num,HBn.out _⟩,by simp [intOf];omega⟩
      ·rw [h] at e2
       have HF:=Z (HCut.out [66,79,79,76] (by rw [h];rfl))
       clear h HCut
       go_region
       all_goals go_wp2_with fail
       all_goals exact ⟨⟨k+1,by omega,by rw [HNx.out];exact congrArg Value.string HF.out,by go_num,HBn.out _⟩,by simp [intOf];omega⟩
    ·obtain rfl:k=t.cols.length:=by omega
     have HAc:Hid ((({ data:=acc.toArray }:ByteArray)++{ data:=(Pl.curL (Pl.headC t.name) (t.cols.map Pl.colText) t.cols.length).toArray })++{ data:=#[41,10] }=⟨(acc++Pl.headLine t).toArray⟩):=by
      unfold Hid
      rw [Pl.headLine_cur]
      have:=cat3' acc (Pl.curL (Pl.headC t.name) (t.cols.map Pl.colText) t.cols.length) [41,10]
      rw [this]
      simp
     have HHl:=Z (Pl.head_len HOT.out)
     have HRl:=Z (fun j=>Pl.rows_len HOT.out j)
     clear hbK hblK e0' c0 n0
     go_upto_region 14 with fail
     rw [HAc.out]
     clear HAc
     go_wp2_with fail
     go_loopw [3,8] (fun s3 s8 wr=>∃ m:Nat,m<=t.rows.length/\s3=.string ⟨(acc++Pl.headLine t++((t.rows.take m).map (Pl.rowLine t.name)).flatten).toArray⟩/\s8=.int .i64 (m:Nat)/\Hid (Below w.heap.size w wr)) (fun _ s8 _=>t.rows.length - (intOf s8).toNat)
     case atStart=>exact ⟨0,Nat.zero_le _,by simp,rfl,HBk.out⟩
     case round =>
      obtain ⟨m,hm,rfl,rfl,HBm⟩:=hrel
      have hbM:=HBm.out
      have hblM:=bB hbM hlz0 HBl.out
      have p0:=bC hblM 0
      have p2:=bC hblM 2
      simp at p0 p2
      rw [HRv.out] at p2
      have hlzM:=lB hblM
      have hhl:=HHl.out
      have hrl:=HRl.out m
      clear m0 m1 m2 hlzK
      by_cases hlm:m<t.rows.length
      ·have hrm:t.rows[m]?=some t.rows[m]:=List.getElem?_eq_getElem hlm
       have hrok:=Pl.row_okV HOT.out (List.getElem_mem hlm)
       have HRt:Hid (((t.rows.take (m+1)).map (Pl.rowLine t.name)).flatten=((t.rows.take m).map (Pl.rowLine t.name)).flatten++Pl.rowLine t.name t.rows[m]):=by
        unfold Hid
        rw [List.take_add_one,hrm,List.map_append,List.flatten_append]
        simp
       generalize t.rows[m]=r at *
       have hmi:((m:Nat):Int)<((t.rows.length:Nat):Int):=by omega
       generalize hsf:acc++Pl.headLine t++((t.rows.take m).map (Pl.rowLine t.name)).flatten=sofar at *
       have hsl:sofar.length<=230000:=by rw [<- hsf];simp only [List.length_append];omega
       have HSf:=Z hsf
       have HHi:Hid (({ data:=#[73,78,83,69,82,84,32,73,78,84,79,32] }:ByteArray)++{ data:=t.name.toArray }++{ data:=#[32,86,65,76,85,69,83,32,40] }=⟨(Pl.curL (Pl.headI t.name) (r.map Pl.valText) 0).toArray⟩):=by
        unfold Hid
        rw [Pl.curL_zero]
        exact cat3' [73,78,83,69,82,84,32,73,78,84,79,32] t.name [32,86,65,76,85,69,83,32,40]
       have HCr:=Z (fun k=>Pl.curL_len (head:=Pl.headI t.name) (xs:=r.map Pl.valText) (by simp [Pl.headI];omega) (fun x hx=>by obtain ⟨c,hc,rfl⟩:=List.mem_map.1 hx;exact Pl.valText_len (hrok.2 c hc)) (by simp;omega) k)
       have HRok:=Z hrok
       have HRm:=Z hrm
       clear hbM hblM hsf hrok hrm hhl hrl
       go_upto_region 18 with fail
       rw [HHi.out]
       clear HHi
       go_wp2_with fail
       go_loopw [6,9] (fun s6 s9 wr=>∃ k:Nat,k<=r.length/\s6=.string ⟨(Pl.curL (Pl.headI t.name) (r.map Pl.valText) k).toArray⟩/\s9=.int .i64 (k:Nat)/\Hid (Below w.heap.size w wr)) (fun _ s9 _=>r.length - (intOf s9).toNat)
       case atStart=>exact ⟨0,Nat.zero_le _,rfl,rfl,HBm.out⟩
       case round =>
        obtain ⟨k,hk,rfl,rfl,HBq⟩:=hrel
        have hbQ:=HBq.out
        have hblQ:=bB hbQ hlz0 HBl.out
        have q2:=bC hblQ 2
        simp at q2
        obtain ⟨gr,gcc,ur,xa,xc,erv,hgr,d0,rfl,hcells⟩:=(HT.out.keep (w':=wr) (fun k hm=>hm) (fun k hm=>hbQ.block k (HW.out.lt k hm))).row_cell HRm.out
        rw [erv] at q2
        have hlzQ:=lB hblQ
        have hcq:=HCr.out k
        have hr5:=HRok.out.1
        clear p0 p2 hlzM
        by_cases hlk:k<r.length
        ·have hvk:r[k]?=some r[k]:=List.getElem?_eq_getElem hlk
         have hvok:=HRok.out.2 _ (List.getElem_mem hlk)
         generalize r[k]=v at *
         obtain ⟨gq,rfl,hgq,v0,v1,v2⟩:=hcells k v hvk
         have hki:((k:Nat):Int)<((r.length:Nat):Int):=by omega
         have hxk:(r.map Pl.valText)[k]?=some (Pl.valText v):=by rw [List.getElem?_map,hvk];rfl
         have hvl:=Pl.valText_len hvok
         have HC:=Z (writtenR v hvok wr)
         unfold aggR at HC
         by_cases h0:0<k
         ·have h0i:(0:Int)<(k:Int):=by omega
          have HNx:Hid (({ data:=(Pl.curL (Pl.headI t.name) (r.map Pl.valText) k).toArray }:ByteArray)++{ data:=#[44,32] }++{ data:=(Pl.valText v).toArray }=⟨(Pl.curL (Pl.headI t.name) (r.map Pl.valText) (k+1)).toArray⟩):=by
           unfold Hid
           rw [Pl.curL_step h0 hxk]
           exact cat3' _ [44,32] _
          generalize Pl.curL (Pl.headI t.name) (r.map Pl.valText) k=cur at *
          generalize Pl.valText v=vt at *
          clear hbQ hblQ hvk hvok hxk hcells h0
          go_wp2_with fail
          refine (U HC).mono ?_
          rintro e w5 ⟨rfl,hb5⟩
          have HB5:=Z (HBq.out.trans (hb5.mono HBq.out.size))
          clear hb5 HC
          go_wp2_with fail
          go_roundw
          case rel=>exact ⟨k+1,by omega,congrArg Value.string HNx.out,by go_num,HB5.out⟩
          case measure=>simp [intOf];omega
         ·have h0i:¬ (0:Int)<(k:Int):=by omega
          obtain rfl:k=0:=by omega
          have HNx:Hid (({ data:=(Pl.curL (Pl.headI t.name) (r.map Pl.valText) 0).toArray }:ByteArray)++{ data:=(Pl.valText v).toArray }=⟨(Pl.curL (Pl.headI t.name) (r.map Pl.valText) 1).toArray⟩):=by
           unfold Hid
           rw [Pl.curL_one hxk]
           exact cat2' _ _
          generalize Pl.curL (Pl.headI t.name) (r.map Pl.valText) 0=cur at *
          generalize Pl.valText v=vt at *
          clear hbQ hblQ hvk hvok hxk hcells h0
          go_wp2_with fail
          refine (U HC).mono ?_
          rintro e w5 ⟨rfl,hb5⟩
          have HB5:=Z (HBq.out.trans (hb5.mono HBq.out.size))
          clear hb5 HC
          go_wp2_with fail
          go_roundw
          case rel=>exact ⟨1,by omega,congrArg Value.string HNx.out,by go_num,HB5.out⟩
          case measure=>simp [intOf];omega
        ·obtain rfl:k=r.length:=by omega
         have HEn:Hid ((({ data:=sofar.toArray }:ByteArray)++{ data:=(Pl.curL (Pl.headI t.name) (r.map Pl.valText) r.length).toArray })++{ data:=#[41,10] }=⟨(acc++Pl.headLine t++((t.rows.take (m+1)).map (Pl.rowLine t.name)).flatten).toArray⟩):=by
          unfold Hid
          rw [HRt.out,Pl.rowLine_cur]
          have:=cat3' sofar (Pl.curL (Pl.headI t.name) (r.map Pl.valText) r.length) [41,10]
          rw [this,<- HSf.out]
          simp
         clear hbQ hblQ hcells
         go_wp2_with fail
         go_roundw
         case rel=>exact ⟨m+1,by omega,congrArg Value.string HEn.out,by go_num,HBq.out⟩
         case measure=>simp [intOf];omega
      ·obtain rfl:m=t.rows.length:=by omega
       have HEn:Hid (acc++Pl.headLine t++((t.rows.take t.rows.length).map (Pl.rowLine t.name)).flatten=((D.take (i+1)).map Pl.tabText).flatten):=by
        unfold Hid
        rw [HTk.out,List.take_length,Pl.tabText_eq]
        simp
       rw [HEn.out]
       clear hbM hblM
       go_wp2_with fail
       go_roundw
       case rel=>exact ⟨i+1,by omega,rfl,by go_num,HBm.out⟩
       case measure=>simp [intOf];omega
  ·obtain rfl:i=D.length:=by omega
   have HE:Hid (((D.take D.length).map Pl.tabText).flatten=out):=by
    unfold Hid
    rw [List.take_length,<- HO.out]
    rfl
   rw [HE.out]
   clear hbI hbxI
   go_wp2_with fail
   go_ret
   exact ⟨rfl,HB.out⟩
theorem ent_pickL (vs:Array Value)(w:World):(callFunc 53 vs).run Tryz.prog w=.ok (.enter 53 vs) w:=by
 have h1:(Tryz.f53.name == "runtime.NumGoroutine")=false:=by kernel_rfl
 have h2 : Tryz.f53.body.isNone=false:=by kernel_rfl
 have h1':¬ Tryz.f53.name = "runtime.NumGoroutine":=by simpa using h1
 have h2':¬ Tryz.f53.body=none:=by intro e;rw [e] at h2;cases h2
 simp [callFunc,go_sem,Tryz.func53,h1',h2']
def PostSt (B0:Nat)(w0:World)(wb came n len:Nat)(e:Ending)(w':World):Prop :=
 e=.returned (.bool true)/\∃ came' n' len',came'<=came+1/\n'<=n+2/\len<=len'/\len'<=len+1/\LawOk B0 w0 w' wb came' n' len'
theorem LawOk.post {B0:Nat}{w0 w':World}{wb came n len:Nat}(h:LawOk B0 w0 w' wb came n len):PostSt B0 w0 wb came n len (.returned (.bool true)) w':=⟨rfl,came,n,len,by omega,by omega,Nat.le_refl _,by omega,h⟩
theorem stepS (L:LexLib)(X:MachLib)(Y:SaveLib)(kd db nn:Int)(t:List UInt8)(hdb:Pl.in64 db)(ht:t.length<=1048576){B0:Nat}{w0 w:World}{col:Nat->Int}{F:Nat->Prop}{wb came:Nat}{psv ov o3:Value}{n:Nat}{gs:List Value}{ps:List Pr}(h:LawW B0 w0 w col F wb came psv ov o3 n gs ps)(heq:∀ (j:Nat)(q:Pr),ps[j]?=some q->q.D=q.E)(hl1:1<=ps.length)(hl2:ps.length<=70000000)(hn:n<=70000000)(hc:came<=70000000) :
 Calls Tryz.prog 33 #[.pointer (some ⟨wb,0,none⟩),.agg #[.int .i64 kd,.int .i64 db,.int .i64 nn,.string ⟨t.toArray⟩],.int .i64 1] w (PostSt B0 w0 wb came n ps.length):=by
 have hb1:Below w.heap.size w (w.alloc (.cells #[.int .i64 kd,.int .i64 db,.int .i64 nn,.string ⟨t.toArray⟩] 74)):=(Below.refl _ _).alloc (Nat.le_refl _) _
 have hox:=blk_new w (.cells #[.int .i64 kd,.int .i64 db,.int .i64 nn,.string ⟨t.toArray⟩] 74)
 have HX0:=Z (h.below hb1)
 have HEq:=Z heq
 obtain ⟨pa,pc,rfl,_⟩:=own_cap h.row
 have hil:Pl.pickK db ps.length<ps.length:=Nat.mod_lt _ (by omega)
 have HPk:=Z (fun W=>pickL db ps.length W hdb (by omega) (by omega))
 clear h heq
 go_enter Tryz.func33,Tryz.ntmps33
 go_upto_region 1 with fail
 generalize w.alloc (.cells #[.int .i64 kd,.int .i64 db,.int .i64 nn,.string ⟨t.toArray⟩] 74)=w1 at *
 generalize w.heap.size=ob at *
 generalize Pl.pickK db ps.length=i at *
 have hpi:ps[i]?=some ps[i]:=List.getElem?_eq_getElem hil
 generalize ps[i]=p at *
 obtain ⟨gp,_,e,_,hgp,cp⟩:=own_cell HX0.out.row (j:=i) (u:=prPtr p) (by rw [List.getElem?_map,hpi];rfl)
 cases e
 unfold prPtr at cp
 have x4:=bC HX0.out.law.box 4
 simp at x4
 have hwz:=lB HX0.out.law.box
 have hoz:=lB hox
 have o1:=bC hox 1
 simp at o1
 have HOx:=Z hox
 have HPi:=Z hpi
 have hii:((i:Nat):Int)<((ps.length:Nat):Int):=by omega
 clear hb1 hox hpi
 go_cut [7] (fun s7 wx=>s7=.pointer (some ⟨p.pb,0,none⟩)/\Hid (Below w1.heap.size w1 wx))
 case first =>
  have HCl:Hid (Calls Tryz.prog 53 #[.int .i64 db,.int .i64 (ps.length:Nat)] w1.drew fun e w'=>∃ v,e=.returned v/\(v=.int .i64 (i:Nat)/\w'=w1.drew)):=by
   refine (HPk.out w1.drew).mono ?_
   rintro e w' ⟨rfl,rfl⟩
   exact ⟨_,rfl,rfl,rfl⟩
  have HBd:Hid (Below w1.heap.size w1 w1.drew):=(Below.refl _ _).drew
  go_region_law (refine step_call2 rfl 53 (.tmp 16) (.tmp 21) _ rfl (.int .i64 db) (.int .i64 (ps.length:Nat)) (ent_pickL _ _) (by simp [Act.eval,Act.put]) (by simp [Act.eval,Act.put]) _ (U HCl) ?_
                 rintro v8 w8 ⟨rfl,rfl⟩)
  all_goals go_wp2_with fail
  all_goals go_meet
  all_goals exact ⟨rfl,HBd.out⟩
 case rest =>
  obtain ⟨rfl,HB⟩:=hcut
  have hX2:=HX0.out.below HB.out
  have hox2:=bB HB.out hoz HOx.out
  have y0:=bC hox2 0
  have y3:=bC hox2 3
  simp at y0 y3
  have hoz2:=lB hox2
  have HX2:=Z hX2
  have HOx2:=Z hox2
  clear hX2 hox2 cp x4 o1 HX0 HOx hwz hoz hgp
  have HNone:Hid (PostSt B0 w0 wb came n ps.length (.returned (.bool true)) wc):=LawOk.post ⟨col,F,_,ov,o3,gs,ps,HX2.out,rfl,HEq.out⟩
  by_cases hk1:kd=1
  ·subst hk1
   have HMay:=Z (mayN t ht wc)
   go_wp2_with fail
   refine (U HMay).mono ?_
   rintro e w3 ⟨rfl,hb3⟩
   have hX3:=HX2.out.below hb3
   have hox3:=bB hb3 hoz2 HOx2.out
   have z3:=bC hox3 3
   simp at z3
   have hoz3:=lB hox3
   have HX3:=Z hX3
   cases hlet:Pl.let1 t with
   | false =>
    have HE:Hid (PostSt B0 w0 wb came n ps.length (.returned (.bool true)) w3):=LawOk.post ⟨col,F,_,ov,o3,gs,ps,HX3.out,rfl,HEq.out⟩
    clear hb3 hX3 hox3 HMay hlet
    go_wp2_with fail
    go_ret
    exact HE.out
   | true =>
    have HEx:=Z (execL L X t ht hlet hX3 HPi.out HEq.out (by omega) (by omega))
    clear hb3 hX3 hox3 HMay hlet
    go_wp2_with fail
    refine (U HEx).mono ?_
    rintro e w4 ⟨rfl,n',hn',hok⟩
    have HE:Hid (PostSt B0 w0 wb came n ps.length (.returned (.bool true)) w4):=⟨rfl,came+1,n',ps.length,by omega,hn',Nat.le_refl _,by omega,hok⟩
    clear hok HEx
    go_wp2_with fail
    go_ret
    exact HE.out
  ·have k1:(kd == 1)=false:=by simp [hk1]
   clear hk1
   by_cases hk2:kd=2
   ·subst hk2
    have hP:=HX2.out.each i p HPi.out
    have c0:=bC hP.box 0
    simp at c0
    have hpz:=lB hP.box
    have HSv:=Z (saveM Y hP.live.ex.db hP.sv.g)
    have HPd:Hid (p.D=p.E):=HEq.out i p HPi.out
    have HP:=Z hP
    clear hP
    go_wp2_with fail
    refine (U HSv).mono ?_
    rintro e w3 ⟨rfl,hb3⟩
    have hX3:=HX2.out.below hb3
    have hP3:=hX3.each i p HPi.out
    have c1:=bC hP3.box 1
    simp at c1
    have hpz3:=lB hP3.box
    have HSr:=Z (saveR w3 p.R p.rb p.rlay p.E hP3.ref)
    rw [<- HPd.out] at HSr
    have HX3:=Z hX3
    generalize Pl.save p.D=sv at *
    clear hb3 hX3 hP3 HSv c0 hpz
    go_wp2_with fail
    refine (U HSr).mono ?_
    rintro e w4 ⟨rfl,hb4⟩
    have HE:Hid (PostSt B0 w0 wb came n ps.length (.returned (.bool true)) w4):=LawOk.post ⟨col,F,_,ov,o3,gs,ps,HX3.out.below hb4,rfl,HEq.out⟩
    clear hb4 HSr
    go_wp2_with fail
    go_ret
    simpa using HE.out
   ·have k2:(kd == 2)=false:=by simp [hk2]
    clear hk2
    by_cases hk3:kd=3
    ·subst hk3
     have hP:=HX2.out.each i p HPi.out
     have HOp:=Z (openL HX2.out HEq.out ⟨hP.live.spell,hP.live.err,hP.live.ex.rules,hP.live.ex.glob.2,hP.live.pow⟩ hP.sv.g (by omega))
     clear hP
     go_wp2_with fail
     refine (U HOp).mono ?_
     rintro e w3 ⟨rfl,hok⟩
     have HE:Hid (PostSt B0 w0 wb came n ps.length (.returned (.bool true)) w3):=⟨rfl,came,n,ps.length+1,by omega,by omega,by omega,Nat.le_refl _,hok⟩
     clear hok HOp
     go_wp2_with fail
     go_ret
     exact HE.out
    ·have k3:(kd == 3)=false:=by simp [hk3]
     clear hk3
     by_cases hk4:kd=4
     ·have k4:(kd != 4)=false:=by simp [hk4]
      clear hk4
      go_wp2_with fail
      go_ret
      exact HNone.out
     ·have k4:(kd != 4)=true:=by simp [hk4]
      clear hk4
      by_cases hk5:kd=5
      ·have k5:(kd != 5)=false:=by simp [hk5]
       clear hk5
       go_wp2_with fail
       go_ret
       exact HNone.out
      ·have k5:(kd != 5)=true:=by simp [hk5]
       clear hk5
       go_wp2_with fail
       go_ret
       exact HNone.out
end Go.Proofs.YtojdpjpldokjmaaGreatDoor
