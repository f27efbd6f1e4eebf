/- The document's reader: no; and all of a value, by how deep one may go. -/
import Derived.Test.YtojdpjpldokjmaaGreatDoorF06
import Derived.Test.YtojdpjpldokjmaaGreatDoorF03
set_option maxHeartbeats 60000000
set_option maxRecDepth 100000
namespace Go.Proofs.YtojdpjpldokjmaaGreatDoor
open Go.RowKit Go.Deep
set_option linter.unusedSimpArgs false
set_option linter.unusedVariables false
def kCmp:List Nat:=[12,4,13,5,14,6]
theorem cmp_noneR {r:List Pl.Tok}(h:Pl.cmpOp (Pl.hd r).k=none):fstI r false kCmp 0=-1/\fstTo r false kCmp=r:=by
 have h':(Pl.hd r).k≠12/\(Pl.hd r).k≠4/\(Pl.hd r).k≠13/\(Pl.hd r).k≠5/\(Pl.hd r).k≠14/\(Pl.hd r).k≠6:=by
  unfold Pl.cmpOp at h
  repeat' (split at h)
  all_goals first|cases h;done|(refine ⟨?_,?_,?_,?_,?_,?_⟩ <;> assumption)
 simp [fstI,fstTo,kCmp,isK,h']
theorem cmp_some {r:List Pl.Tok}{o:Nat}(h:Pl.cmpOp (Pl.hd r).k=some o):∃ i:Nat,i<6/\fstI r false kCmp 0=i/\fstTo r false kCmp=r.tail/\o=11+i/\Value.string ⟨(Pl.spell (kCmp.getD i 0)).toArray⟩=.string (signB (11+i)):=by
 unfold Pl.cmpOp at h
 repeat' (split at h)
 all_goals first
  | (cases h;rename_i hk;exact ⟨0,by omega,by simp [fstI,kCmp,isK,hk],by simp [fstTo,kCmp,isK,hk],rfl,rfl⟩)
  | (cases h;rename_i hk;exact ⟨1,by omega,by simp [fstI,kCmp,isK,hk],by simp [fstTo,kCmp,isK,hk],rfl,rfl⟩)
  | (cases h;rename_i hk;exact ⟨2,by omega,by simp [fstI,kCmp,isK,hk],by simp [fstTo,kCmp,isK,hk],rfl,rfl⟩)
  | (cases h;rename_i hk;exact ⟨3,by omega,by simp [fstI,kCmp,isK,hk],by simp [fstTo,kCmp,isK,hk],rfl,rfl⟩)
  | (cases h;rename_i hk;exact ⟨4,by omega,by simp [fstI,kCmp,isK,hk],by simp [fstTo,kCmp,isK,hk],rfl,rfl⟩)
  | (cases h;rename_i hk;exact ⟨5,by omega,by simp [fstI,kCmp,isK,hk],by simp [fstTo,kCmp,isK,hk],rfl,rfl⟩)
  | cases h
theorem strs_cmp (w:World):strsAt (w.alloc (.cells #[.string { data:=#[61] },.string { data:=#[60,62] },.string { data:=#[60] },.string { data:=#[60,61] },.string { data:=#[62] },.string { data:=#[62,61] }] 9)) w.heap.size kCmp :=
 strs_new w kCmp _ _ rfl (by decide)
theorem fst_bad (ts:List Pl.Tok)(ks:List Nat):fstI ts true ks 0=-1/\fstTo ts true ks=ts:=by
 have h1:∀ (ks:List Nat) (i:Int),fstI ts true ks i=-1:=by
  intro ks;induction ks with
  | nil=>intro i;rfl
  | cons k ks ih=>intro i;unfold fstI;rw [isK_true];exact ih (i+1)
 have h2:∀ (ks:List Nat),fstTo ts true ks=ts:=by
  intro ks;induction ks with
  | nil=>rfl
  | cons k ks ih=>unfold fstTo;rw [isK_true];exact ih
 exact ⟨h1 ks 0,h2 ks⟩
theorem no_not (d:Nat)(hd:d<=20)(v:Pl.Lv)(H:d<20->CR 271 (d+1) v.no)(H0:d=20->∀ ts,v.no ts=none)
 (rb:Nat) (s:ByteArray) (ts:List Pl.Tok) (w:World) (hR:RT w rb s ts d false) (h43:(Pl.hd ts).k=43):Calls Tryz.prog 271 #[.pointer (some ⟨rb,0,none⟩)] w (PostV w rb s d (v.no' ts)):=by
 have HF:=Z (fitsT 43 (by decide) (by decide) rb s ts d false { data:=#[78,79,84] } rfl w hR)
 have HH:=Z H
 have HH0:=Z H0
 clear hR H H0
 have hi:isK ts 43 false=true:=by simp [isK,h43]
 have hto:toK ts 43 false=ts.tail:=by unfold toK;rw [hi];rfl
 rw [hi,hto] at HF
 clear hi hto
 have HK:=Z h43
 clear h43
 go_enter Tryz.func271,Tryz.ntmps271
 go_wp2_with fail
 refine (U HF).mono ?_
 rintro e w1 ⟨rfl,hr1,hk1⟩
 have HR1:=Z hr1
 have HK1:=Z hk1
 clear hr1 hk1 HF
 go_wp2_with fail
 refine (deeperT rb s ts.tail d (by omega) false w1 HR1.out).mono ?_
 rintro e w2 ⟨rfl,hr2,hk2⟩
 have HK2:=Z (HK1.out.trans hk2)
 by_cases h20:d<20
 ·have hdp:dpB d false=false:=by simp [dpB];omega
  rw [hdp] at hr2 ⊢
  have HR2:=Z hr2
  clear hr2 hk2 hdp HR1 HK1
  go_wp2_with fail
  refine (U HH h20 rb s ts.tail w2 HR2.out).mono ?_
  rintro e w3 ⟨hk3,a,rfl,hp⟩
  have HK3:=Z (HK2.out.trans hk3)
  clear hk3 HK2 HR2 HH HH0
  cases hv:v.no ts.tail with
  | none =>
   rw [hv] at hp
   obtain ⟨ts',d',hd1,hd2,hr3⟩:=hp
   obtain ⟨r2,r3,rf⟩:=hr3.c
   have HR3:=Z (hr3.deep (d' - 1) ((d':Int) - 1) (by omega))
   clear hr3
   have HV:Hid (v.no' ts=none):=by unfold Pl.Lv.no' Pl.pNo;rw [HK.out,if_pos rfl,hv];rfl
   clear hv
   go_wp2_with fail
   go_ret
   exact PostV.none_ HV.out ((HK3.out.set _ _).alloc _) (by omega) (by omega) (HR3.out.alloc _)
  | some y =>
   obtain ⟨x,r⟩:=y
   rw [hv] at hp
   obtain ⟨hx,hr3⟩:=hp
   obtain ⟨r2,r3,rf⟩:=hr3.c
   have hlt3:=hr3.lt
   have HR3:=Z (hr3.deep d (d:Int) rfl)
   have HX:=Z hx
   clear hr3 hx
   have HV:Hid (v.no' ts=some (Pl.tOne 3 x,r)):=by unfold Pl.Lv.no' Pl.pNo;rw [HK.out,if_pos rfl,hv];rfl
   clear hv
   go_wp2_with fail
   go_ret
   exact PostV.some_ HV.out ((HK3.out.set _ _).alloc _) (RTree.one hlt3 3 x _ (blk_new' _ _ _ (size_set _ _ _).symm) (HX.out.keeps (((Keeps.refl _ _).set _ _).alloc _))) (HR3.out.alloc _)
 ·have hdp:dpB d false=true:=by simp [dpB];omega
  rw [hdp] at hr2 ⊢
  have HV:Hid (v.no' ts=none):=by unfold Pl.Lv.no' Pl.pNo;rw [HK.out,if_pos rfl,HH0.out (by omega)];rfl
  have HR2:=Z hr2
  clear hr2 hk2 hdp HR1 HK1 HH HH0
  go_wp2_with fail
  go_ret
  exact PostV.none_ HV.out HK2.out (by omega) (by omega) HR2.out
theorem no_comp (d:Nat)(hd:d<=20)(v:Pl.Lv)(H3:CV 3 d v.sum)(H3b:CVbad 3)
 (rb:Nat) (s:ByteArray) (ts:List Pl.Tok) (w:World) (hR:RT w rb s ts d false) (h43:(Pl.hd ts).k≠43):Calls Tryz.prog 271 #[.pointer (some ⟨rb,0,none⟩)] w (PostV w rb s d (v.no' ts)):=by
 have HF:=Z (fitsT 43 (by decide) (by decide) rb s ts d false { data:=#[78,79,84] } rfl w hR)
 have HH:=Z H3
 have HHb:=Z H3b
 clear hR H3 H3b
 have hi:isK ts 43 false=false:=by simp [isK,h43]
 have hto:toK ts 43 false=ts:=by unfold toK;rw [hi];rfl
 rw [hi,hto] at HF
 have HV:Hid (v.no' ts=v.comp ts):=by unfold Pl.Lv.no' Pl.pNo;rw [if_neg h43];rfl
 clear hi hto h43
 go_enter Tryz.func271,Tryz.ntmps271
 go_wp2_with fail
 refine (U HF).mono ?_
 rintro e w1 ⟨rfl,hr1,hk1⟩
 have HR1:=Z hr1
 have HK1:=Z hk1
 clear hr1 hk1 HF
 go_wp2_with fail
 refine (U HH rb s ts w1 HR1.out).mono ?_
 rintro e w2 ⟨hk2,a,rfl,hp⟩
 have HK2:=Z (HK1.out.trans hk2)
 clear hk2 HK1 HR1
 cases hv:v.sum ts with
 | none =>
  rw [hv] at hp
  obtain ⟨t2,d2,hd1,hd2,hr2⟩:=hp
  have hlt2:=hr2.lt
  have hb2:=fst_bad t2 kCmp
  have HF2:=Z (firstN kCmp 6 rfl w2.heap.size 6 rb s t2 d2 true _ (hr2.alloc (.cells #[.string { data:=#[61] },.string { data:=#[60,62] },.string { data:=#[60] },.string { data:=#[60,61] },.string { data:=#[62] },.string { data:=#[62,61] }] 9)) (strs_cmp w2) (by omega) (by omega))
  rw [hb2.1,hb2.2] at HF2
  have HV2:Hid (v.no' ts=none):=by rw [HV.out];unfold Pl.Lv.comp Pl.pComp;rw [hv];rfl
  clear hr2 hb2 hv
  go_wp2_with fail
  refine (U HF2).mono ?_
  rintro e w3 ⟨rfl,hr3,hk3⟩
  have HK3:=Z ((HK2.out.alloc _).trans hk3)
  have HF3:=Z (fitsT 44 (by decide) (by decide) rb s t2 d2 true { data:=#[73,83] } rfl w3 hr3)
  rw [isK_true,toK_true] at HF3
  clear hr3 hk3 HF2
  go_wp2_with fail
  refine (U HF3).mono ?_
  rintro e w4 ⟨rfl,hr4,hk4⟩
  go_wp2_with fail
  go_ret
  exact PostV.none_ HV2.out (HK3.out.trans hk4) hd1 hd2 hr4
 | some y =>
  obtain ⟨x,r⟩:=y
  rw [hv] at hp
  obtain ⟨hx,hr2⟩:=hp
  have hlt2:=hr2.lt
  have HX:=Z hx
  have HF2:=Z (firstN kCmp 6 rfl w2.heap.size 6 rb s r d false _ (hr2.alloc (.cells #[.string { data:=#[61] },.string { data:=#[60,62] },.string { data:=#[60] },.string { data:=#[60,61] },.string { data:=#[62] },.string { data:=#[62,61] }] 9)) (strs_cmp w2) (by omega) (by omega))
  have hcs:=(strs_cmp w2).2.1
  clear hr2 hx
  cases ho:Pl.cmpOp (Pl.hd r).k with
  | none =>
   have hb2:=cmp_noneR ho
   rw [hb2.1,hb2.2] at HF2
   have HV2:Hid (v.no' ts=if (Pl.hd r).k=44 then Pl.pIs x r.tail else some (x,r)):=by rw [HV.out];unfold Pl.Lv.comp Pl.pComp;rw [hv];simp only;rw [ho];rfl
   clear hb2 hv ho hcs
   go_wp2_with fail
   refine (U HF2).mono ?_
   rintro e w3 ⟨rfl,hr3,hk3⟩
   have HK3:=Z ((HK2.out.alloc _).trans hk3)
   have HX3:=Z (HX.out.keeps (((Keeps.refl _ _).alloc _).trans hk3))
   have HF3:=Z (fitsT 44 (by decide) (by decide) rb s r d false { data:=#[73,83] } rfl w3 hr3)
   clear hr3 hk3 HF2 HX HK2
   go_wp2_with fail
   refine (U HF3).mono ?_
   rintro e w4 ⟨rfl,hr4,hk4⟩
   have HK4:=Z (HK3.out.trans hk4)
   have HX4:=Z (HX3.out.keeps hk4)
   by_cases h44:(Pl.hd r).k=44
   ·have hi:isK r 44 false=true:=by simp [isK,h44]
    have hto:toK r 44 false=r.tail:=by unfold toK;rw [hi];rfl
    rw [hto] at hr4
    rw [hi]
    have HF5:=Z (fitsT 43 (by decide) (by decide) rb s r.tail d false { data:=#[78,79,84] } rfl w4 hr4)
    clear hi hto hr4 hk4 HF3 HK3 HX3
    go_wp2_with fail
    refine (U HF5).mono ?_
    rintro e w5 ⟨rfl,hr5,hk5⟩
    have HK5:=Z (HK4.out.trans hk5)
    have HX5:=Z (HX4.out.keeps hk5)
    by_cases h43:(Pl.hd r.tail).k=43
    ·have hi:isK r.tail 43 false=true:=by simp [isK,h43]
     have hto:toK r.tail 43 false=r.tail.tail:=by unfold toK;rw [hi];rfl
     rw [hto] at hr5
     rw [hi]
     have HF6:=Z (needT 45 (by decide) (by decide) rb s r.tail.tail d false { data:=#[78,85,76,76] } rfl w5 hr5)
     clear hi hto hr5 hk5 HF5 HK4 HX4
     go_wp2_with fail
     refine (U HF6).mono ?_
     rintro e w6 ⟨rfl,hr6,hk6⟩
     have HK6:=Z (HK5.out.trans hk6)
     have HX6:=Z (HX5.out.keeps hk6)
     go_wp2_with fail
     go_ret
     by_cases h45:(Pl.hd r.tail.tail).k=45
     ·have hi:isK r.tail.tail 45 false=true:=by simp [isK,h45]
      have hto:toK r.tail.tail 45 false=r.tail.tail.tail:=by unfold toK;rw [hi];rfl
      rw [hi,hto] at hr6
      exact PostV.some_ (by rw [HV2.out,if_pos h44];unfold Pl.pIs;rw [if_pos h43,if_pos h45]) (HK6.out.alloc _) (RTree.one hr6.lt 5 x _ (blk_new _ _) (HX6.out.keeps ((Keeps.refl _ _).alloc _))) (hr6.alloc _)
     ·have hi:isK r.tail.tail 45 false=false:=by simp [isK,h45]
      rw [hi] at hr6
      exact PostV.none_ (by rw [HV2.out,if_pos h44];unfold Pl.pIs;rw [if_pos h43,if_neg h45]) (HK6.out.alloc _) (Nat.le_refl _) (by omega) (hr6.alloc _)
    ·have hi:isK r.tail 43 false=false:=by simp [isK,h43]
     have hto:toK r.tail 43 false=r.tail:=by unfold toK;rw [hi];rfl
     rw [hto] at hr5
     rw [hi]
     have HF6:=Z (needT 45 (by decide) (by decide) rb s r.tail d false { data:=#[78,85,76,76] } rfl w5 hr5)
     clear hi hto hr5 hk5 HF5 HK4 HX4
     go_wp2_with fail
     refine (U HF6).mono ?_
     rintro e w6 ⟨rfl,hr6,hk6⟩
     have HK6:=Z (HK5.out.trans hk6)
     have HX6:=Z (HX5.out.keeps hk6)
     go_wp2_with fail
     go_ret
     by_cases h45:(Pl.hd r.tail).k=45
     ·have hi:isK r.tail 45 false=true:=by simp [isK,h45]
      have hto:toK r.tail 45 false=r.tail.tail:=by unfold toK;rw [hi];rfl
      rw [hi,hto] at hr6
      exact PostV.some_ (by rw [HV2.out,if_pos h44];unfold Pl.pIs;rw [if_neg h43,if_pos h45]) (HK6.out.alloc _) (RTree.one hr6.lt 4 x _ (blk_new _ _) (HX6.out.keeps ((Keeps.refl _ _).alloc _))) (hr6.alloc _)
     ·have hi:isK r.tail 45 false=false:=by simp [isK,h45]
      rw [hi] at hr6
      exact PostV.none_ (by rw [HV2.out,if_pos h44];unfold Pl.pIs;rw [if_neg h43,if_neg h45]) (HK6.out.alloc _) (Nat.le_refl _) (by omega) (hr6.alloc _)
   ·have hi:isK r 44 false=false:=by simp [isK,h44]
    have hto:toK r 44 false=r:=by unfold toK;rw [hi];rfl
    rw [hto] at hr4
    rw [hi]
    go_wp2_with fail
    go_ret
    exact PostV.some_ (by rw [HV2.out,if_neg h44]) HK4.out HX4.out hr4
  | some o =>
   obtain ⟨i,hi6,hb1,hb2,hoi,hsg⟩:=cmp_some ho
   rw [hb1,hb2] at HF2
   have HV2:Hid (v.no' ts=match v.sum r.tail with|none=>none|some (y,r')=>some (Pl.tTwo o x y,r')):=by rw [HV.out];unfold Pl.Lv.comp Pl.pComp;rw [hv];simp only;rw [ho];rfl
   have hcell:=hcs i hi6
   have e6:kCmp[i]'hi6=kCmp.getD i 0:=by rw [List.getD_eq_getElem?_getD,List.getElem?_eq_getElem hi6];rfl
   rw [e6,hsg] at hcell
   have HO:=Z hoi
   clear hb1 hb2 hv ho hcs hsg e6 hoi
   go_wp2_with fail
   refine (U HF2).mono ?_
   rintro e w3 ⟨rfl,hr3,hk3⟩
   have HK3:=Z ((HK2.out.alloc _).trans hk3)
   have HX3:=Z (HX.out.keeps (((Keeps.refl _ _).alloc _).trans hk3))
   have hc3:w3.cell? ⟨w2.heap.size,i,none⟩=some (.string (signB (11+i))):=by rw [hk3.cell (by simp) (by omega)];exact hcell
   have hz3:w2.heap.size<w3.heap.size:=by have:=hk3.size;simp at this;omega
   have HR3:=Z hr3
   clear hr3 hk3 HF2 HX HK2 hcell
   go_wp2_with fail
   refine (U HH rb s r.tail w3 HR3.out).mono ?_
   rintro e w4 ⟨hk4,a4,rfl,hp4⟩
   have HK4:=Z (HK3.out.trans hk4)
   have HX4:=Z (HX3.out.keeps hk4)
   have hc4:w4.cell? ⟨w2.heap.size,i,none⟩=some (.string (signB (11+i))):=by rw [hk4.cell hz3 (by omega)];exact hc3
   have HP4:=Z hp4
   clear hp4 hk4 hc3
   go_wp2_with fail
   go_ret
   have hq:=HP4.out
   cases hv4:v.sum r.tail with
   | none =>
    rw [hv4] at hq
    obtain ⟨t5,d5,h1,h2,h3⟩:=hq
    exact PostV.none_ (by rw [HV2.out,hv4]) (HK4.out.alloc _) h1 h2 (h3.alloc _)
   | some y =>
    obtain ⟨y,r'⟩:=y
    rw [hv4] at hq
    exact PostV.some_ (by rw [HV2.out,hv4]) (HK4.out.alloc _) (by rw [HO.out];exact RTree.two hq.2.lt (11+i) x y _ _ (blk_new _ _) (HX4.out.keeps ((Keeps.refl _ _).alloc _)) (hq.1.keeps ((Keeps.refl _ _).alloc _))) (hq.2.alloc _)
theorem no_bad (H3b:CVbad 3):CRbad 271:=by
 intro rb s ts d w hd hR
 have HF:=Z (fitsT 43 (by decide) (by decide) rb s ts d true { data:=#[78,79,84] } rfl w hR)
 have HHb:=Z H3b
 clear hR H3b
 rw [isK_true,toK_true] at HF
 go_enter Tryz.func271,Tryz.ntmps271
 go_wp2_with fail
 refine (U HF).mono ?_
 rintro e w1 ⟨rfl,hr1,hk1⟩
 have HR1:=Z hr1
 have HK1:=Z hk1
 clear hr1 hk1 HF
 go_wp2_with fail
 refine (U HHb rb s ts d w1 hd HR1.out).mono ?_
 rintro e w2 ⟨hk2,a,rfl,t2,d2,hd1,hd2,hr2⟩
 have HK2:=Z (HK1.out.trans hk2)
 clear hk2 HK1 HR1
 have hlt2:=hr2.lt
 have hb2:=fst_bad t2 kCmp
 have HF2:=Z (firstN kCmp 6 rfl w2.heap.size 6 rb s t2 d2 true _ (hr2.alloc (.cells #[.string { data:=#[61] },.string { data:=#[60,62] },.string { data:=#[60] },.string { data:=#[60,61] },.string { data:=#[62] },.string { data:=#[62,61] }] 9)) (strs_cmp w2) (by omega) (by omega))
 rw [hb2.1,hb2.2] at HF2
 clear hr2 hb2
 go_wp2_with fail
 refine (U HF2).mono ?_
 rintro e w3 ⟨rfl,hr3,hk3⟩
 have HK3:=Z ((HK2.out.alloc _).trans hk3)
 have HF3:=Z (fitsT 44 (by decide) (by decide) rb s t2 d2 true { data:=#[73,83] } rfl w3 hr3)
 rw [isK_true,toK_true] at HF3
 clear hr3 hk3 HF2
 go_wp2_with fail
 refine (U HF3).mono ?_
 rintro e w4 ⟨rfl,hr4,hk4⟩
 go_wp2_with fail
 go_ret
 exact PostV.none_ rfl (HK3.out.trans hk4) hd1 hd2 hr4
theorem vbad4:CVbad 4:=value4_bad (fun rb s ts d w hd hR=>part_signed rb s d w _ (Z (signed_bad rb s ts d w hd hR)))
theorem vbad3:CVbad 3:=value3_bad (fun rb s ts d w hd hR=>part_val 3 4 (.inr ⟨rfl,rfl⟩) rb s d w _ (Z (vbad4 rb s ts d w hd hR)))
theorem vbad1:CVbad 1:=value1_bad (fun rb s ts d w hd hR=>part_no rb s d w _ (Z (no_bad vbad3 rb s ts d w hd hR)))
theorem vbad0:CVbad 0:=value0_bad (fun rb s ts d w hd hR=>part_val 0 1 (.inl ⟨rfl,rfl⟩) rb s d w _ (Z (vbad1 rb s ts d w hd hR)))
theorem level_good (d:Nat)(hd:d<=20)(v:Pl.Lv)(hshr:Pl.Shr v.signed/\Pl.Shr v.prod/\Pl.Shr v.no'/\Pl.Shr v.both)
 (H:d<20->CV 0 (d+1) v.val/\CR 271 (d+1) v.no/\CR 272 (d+1) v.sgn)
 (H0:d=20->(∀ ts,v.val ts=none)/\(∀ ts,v.no ts=none)/\(∀ ts,v.sgn ts=none)) :
 CV 0 d v.value/\CR 271 d v.no'/\CR 272 d v.signed:=by
 have h1:=single_good d hd v (fun h=>(H h).1) (fun h=>(H0 h).1)
 have h2:=signed_good d hd v (fun h=>(H h).2.2) (fun h=>(H0 h).2.2) h1
 have h4:CV 4 d v.prod:=value4_good d hd v.signed hshr.1 (fun rb s ts w hR=>part_signed rb s d w _ (Z (h2 rb s ts w hR)))
 have h3:CV 3 d v.sum:=value3_good d hd v.prod hshr.2.1 (fun rb s ts w hR=>part_val 3 4 (.inr ⟨rfl,rfl⟩) rb s d w _ (Z (h4 rb s ts w hR)))
 have h5:CR 271 d v.no':=fun rb s ts w hR=>by
  by_cases h43:(Pl.hd ts).k=43
  ·exact no_not d hd v (fun h=>(H h).2.1) (fun h=>(H0 h).2.1) rb s ts w hR h43
  ·exact no_comp d hd v h3 vbad3 rb s ts w hR h43
 have h6:CV 1 d v.both:=value1_good d hd v.no' hshr.2.2.1 (fun rb s ts w hR=>part_no rb s d w _ (Z (h5 rb s ts w hR)))
 have h7:CV 0 d v.value:=value0_good d hd v.both hshr.2.2.2 (fun rb s ts w hR=>part_val 0 1 (.inl ⟨rfl,rfl⟩) rb s d w _ (Z (h6 rb s ts w hR)))
 exact ⟨h7,h5,h2⟩
theorem levels:∀ (k d:Nat),d+k=20->CV 0 d (Pl.lv k).value/\CR 271 d (Pl.lv k).no'/\CR 272 d (Pl.lv k).signed
 | 0,d,h=>by
  have hs:=Pl.lv_shr 0
  exact level_good d (by omega) _ ⟨hs.2.2.2.2.1,hs.2.2.2.2.2.1,hs.2.2.2.2.2.2.2.2.1,hs.2.2.2.2.2.2.2.2.2.1⟩ (fun h=>by omega) (fun _=>⟨fun _=>rfl,fun _=>rfl,fun _=>rfl⟩)
 | k+1,d,h=>by
  have hs:=Pl.lv_shr (k+1)
  exact level_good d (by omega) _ ⟨hs.2.2.2.2.1,hs.2.2.2.2.2.1,hs.2.2.2.2.2.2.2.2.1,hs.2.2.2.2.2.2.2.2.2.1⟩ (fun _=>levels k (d+1) (by omega)) (fun h=>by omega)
theorem refValue:CV 0 0 (Pl.pVal 20):=(levels 20 0 rfl).1
theorem where_good:CR 125 0 Pl.pWhere:=by
 intro rb s ts w hR
 have HF:=Z (fitsT 27 (by decide) (by decide) rb s ts 0 false { data:=#[87,72,69,82,69] } rfl w hR)
 clear hR
 by_cases h27:(Pl.hd ts).k=27
 ·have hi:isK ts 27 false=true:=by simp [isK,h27]
  have hto:toK ts 27 false=ts.tail:=by unfold toK;rw [hi];rfl
  rw [hi,hto] at HF
  have HV:Hid (Pl.pWhere ts=Pl.pVal 20 ts.tail):=by unfold Pl.pWhere;rw [if_pos h27];rfl
  clear hi hto h27
  go_enter Tryz.func125,Tryz.ntmps125
  go_wp2_with fail
  refine (U HF).mono ?_
  rintro e w1 ⟨rfl,hr1,hk1⟩
  go_wp2_with fail
  refine (refValue rb s ts.tail w1 hr1).mono ?_
  rintro e w2 ⟨hk2,a,rfl,hp⟩
  go_wp2_with fail
  go_ret
  exact ⟨hk1.trans hk2,a,rfl,by rw [HV.out];exact hp⟩
 ·have hi:isK ts 27 false=false:=by simp [isK,h27]
  have hto:toK ts 27 false=ts:=by unfold toK;rw [hi];rfl
  rw [hi,hto] at HF
  have HV:Hid (Pl.pWhere ts=some (.nil,ts)):=by unfold Pl.pWhere;rw [if_neg h27];rfl
  clear hi hto h27
  go_enter Tryz.func125,Tryz.ntmps125
  go_wp2_with fail
  refine (U HF).mono ?_
  rintro e w1 ⟨rfl,hr1,hk1⟩
  go_wp2_with fail
  go_ret
  exact PostV.some_ HV.out hk1 rfl hr1
theorem where_bad:CRbad 125:=by
 intro rb s ts d w hd hR
 have HF:=Z (fitsT 27 (by decide) (by decide) rb s ts d true { data:=#[87,72,69,82,69] } rfl w hR)
 clear hR
 rw [isK_true,toK_true] at HF
 go_enter Tryz.func125,Tryz.ntmps125
 go_wp2_with fail
 refine (U HF).mono ?_
 rintro e w1 ⟨rfl,hr1,hk1⟩
 go_wp2_with fail
 go_ret
 exact PostV.none_ rfl hk1 (Nat.le_refl _) hd hr1
theorem toks_len:∀ (n:Nat)(l:List UInt8),l.length<n->(Pl.toks l).length<=l.length
 | 0,_,h=>by omega
 | n+1,l,h=>by
  rw [Pl.toks_unfold]
  rcases Pl.look_k l with hk|hk|hk
  ·rw [hk,if_pos (show Pl.fin.k=0 from rfl)];simp
  ·rw [if_neg (by omega),if_neg (by omega)]
   have h1:=Pl.look_len l (by omega)
   have h2:=toks_len n (Pl.look l).2 (by omega)
   simp;omega
  ·have h1:=Pl.look_len l (by rw [hk];decide)
   rw [hk,if_neg (by decide),if_pos (by decide)];simp;omega
theorem RT.len {w:World}{rb:Nat}{s:ByteArray}{ts:List Pl.Tok}{d:Nat}{b:Bool}(h:RT w rb s ts d b):ts.length<=1048576:=by
 obtain ⟨p,h1,h2,h3,h4⟩:=h
 have:=toks_len _ (Pl.from_ s p) (Nat.lt_succ_self _)
 rw [h4] at this
 have h5:(Pl.from_ s p).length<=s.size:=by unfold Pl.from_;simp
 omega
def itCells (it:Pl.It)(v:Value):List Value:=[.string ⟨it.name.toArray⟩,.string ⟨it.other.toArray⟩,.int .i64 it.type,v,.bool it.mark]
def ItemsAt (w:World)(rb:Nat):List Pl.It->List Value->Prop
 | [],cs=>cs=[]
 | it :: its,cs=>∃ (a:Option Addr) (rest:List Value),cs=itCells it (.pointer a)++rest/\RTree w rb it.tree (.pointer a)/\ItemsAt w rb its rest
theorem ItemsAt.snoc {w:World}{rb:Nat}{it:Pl.It}{a:Option Addr}(hx:RTree w rb it.tree (.pointer a)):∀ {its:List Pl.It}{cs:List Value},ItemsAt w rb its cs->ItemsAt w rb (its++[it]) (cs++itCells it (.pointer a))
 | [],cs,h=>by
  have:cs=[]:=h
  subst this
  exact ⟨a,[],by simp,hx,rfl⟩
 | j :: its,cs,⟨b,rest,hc,ht,hr⟩=>⟨b,rest++itCells it (.pointer a),by rw [hc];simp,ht,ItemsAt.snoc hx hr⟩
theorem ItemsAt.mono {w w':World}{rb:Nat}(hm:∀ (t:Pl.T)(v:Value),RTree w rb t v->RTree w' rb t v):∀ {its:List Pl.It}{cs:List Value},ItemsAt w rb its cs->ItemsAt w' rb its cs
 | [],_,h=>h
 | _ :: _,_,⟨b,rest,hc,ht,hr⟩=>⟨b,rest,hc,hm _ _ ht,ItemsAt.mono hm hr⟩
theorem RTree.grown {w w':World}{rb:Nat}{row:Option Nat}(hg:w.grownBy w' row)(hrow:∀ k,row=some k->∃ cur e,w.heap[k]?=some (.cells cur e (0,0))/\e≠301):∀ {t:Pl.T}{v:Value},RTree w rb t v->RTree w' rb t v
 | .nil,_,h=>h
 | .node _ _ a l r,v,⟨n,vl,vr,hv,hn,hb,hl,hr⟩=>⟨n,vl,vr,hv,hn,by
  rw [hg.block n (lB hb) (fun e=>by
   obtain ⟨cur,e',h1,h2⟩:=hrow n e.symm
   rw [hb] at h1
   injection h1 with h1
   injection h1 with _ h1 _
   exact h2 h1.symm),hb],RTree.grown hg hrow hl,RTree.grown hg hrow hr⟩
def ItemsW (w:World)(rb base:Nat)(its:List Pl.It)(v:Value):Prop:=∃ cs,w.ownsRow base 157 5 v its.length cs/\ItemsAt w rb its cs
theorem RT.grown {w w':World}{rb:Nat}{s:ByteArray}{ts:List Pl.Tok}{d:Nat}{b:Bool}{row:Option Nat}(h:RT w rb s ts d b)(hg:w.grownBy w' row)(hr:∀ k,row=some k->rb<k):RT w' rb s ts d b :=
 h.blk (hg.block rb h.lt (fun e=>by have:=hr rb e.symm;omega))
theorem ItemsW.keeps {w w':World}{rb base:Nat}{its:List Pl.It}{v:Value}(hk:Keeps rb w w')(hb:rb<base)(h:ItemsW w rb base its v):ItemsW w' rb base its v:=by
 obtain ⟨cs,h1,h2⟩:=h
 exact ⟨cs,own_keeps hk hb h1,h2.mono (fun t v=>RTree.keeps hk)⟩
def PostI (w:World)(rb:Nat)(s:ByteArray)(d:Nat)(spec:Option (List Pl.It × List Pl.Tok))(e:Ending)(w':World):Prop :=
 Keeps rb w w'/\∃ (a:Option Addr) (n c:Nat),e=.returned (.slice a n c)/\match spec with
  | some (its,r)=>ItemsW w' rb w.heap.size its (.slice a n c)/\RT w' rb s r d false
  | none=>∃ ts' d',d<=d'/\d'<=21/\RT w' rb s ts' d' true
theorem push_all {w w1 w2:World}{rb:Nat}{s:ByteArray}{its:List Pl.It}{v:Value}{cs C:List Value}{t:TypeId}(hrb:rb<w.heap.size)(hk:Keeps rb w w1)(hown:w1.ownsRow w.heap.size 157 5 v its.length cs)
 (hg:(w1.alloc (.cells C.toArray t)).grownBy w2 v.ownBlock):Keeps rb w w2/\(∀ ts d b,RT w1 rb s ts d b->RT w2 rb s ts d b)/\(∀ t v,RTree w1 rb t v->RTree w2 rb t v):=by
 have hlt:∀ k,v.ownBlock=some k->w.heap.size<=k:=fun k e=>(hown.lt k e).1
 refine ⟨(hk.alloc _).grown hg hlt,fun ts d b h=>(h.alloc _).grown hg (fun k e=>by have:=hlt k e;omega),fun x u h=>?_⟩
 refine RTree.grown hg (fun k hk=>?_) (h.keeps ((Keeps.refl rb w1).alloc _))
 obtain ⟨cur,hc⟩:=own_row (hown.alloc (.cells C.toArray t)) k hk
 exact ⟨cur,_,hc,by decide⟩
theorem Tryz.infoItem:(Tryz.prog.info? 157).map (fun i=>(i.zero,i.size,i.bytes))=some (some (.agg #[.string { data:=#[] },.string { data:=#[] },.int .i64 0,.pointer none,.bool false]),5,56):=by kernel_rfl
def LoopI (w wr:World)(rb:Nat)(s:ByteArray)(d:Nat)(p:Pl.PI)(sp:Option (List Pl.It × List Pl.Tok))(g:Nat)(v:Value)(its:List Pl.It)(cs:List Value)(ts:List Pl.Tok):Prop :=
 Keeps rb w wr/\ts.length<g/\its.length+ts.length<=1048576/\wr.ownsRow w.heap.size 157 5 v its.length cs/\ItemsAt wr rb its cs/\RT wr rb s ts d false/\Pl.more p (ts.length+1) its ts=sp
theorem values_good (rb:Nat)(s:ByteArray)(ts:List Pl.Tok)(w:World)(hR:RT w rb s ts 0 false) :
 Calls Tryz.prog 124 #[.pointer (some ⟨rb,0,none⟩)] w (PostI w rb s 0 (Pl.listed Pl.iValue ts)):=by
 have hrb:=hR.lt
 obtain ⟨i0,hi,hz0,hz1,hz2⟩:=info_parts Tryz.infoItem
 have hlen:=hR.len
 have HLV:Hid (LoopI w w rb s 0 Pl.iValue (Pl.listed Pl.iValue ts) (ts.length+1) (.slice none 0 0) [] [] ts) :=
  ⟨Keeps.refl _ _,by omega,by simpa using hlen,World.ownsRow_nil _ _ _ _,rfl,hR,rfl⟩
 generalize hsp:Pl.listed Pl.iValue ts=sp at *
 have HSP:=Z hsp
 clear hsp hR
 go_enter Tryz.func124,Tryz.ntmps124
 go_wp2_with fail
 go_loopg [3] (ts.length+1) (fun g x wr=>∃ its cs tr,Hid (LoopI w wr rb s 0 Pl.iValue sp g x its cs tr))
 case atStart=>exact ⟨[],[],ts,HLV⟩
 case round =>
  obtain ⟨its,cs,tr,HL⟩:=hrel
  obtain ⟨hk,hg,hb,hown,hI,hr,hm⟩:=HL.out
  have HK:=Z hk
  have HO:=Z hown
  have HI:=Z hI
  have HR:=Z hr
  have HM:=Z hm
  have hsz:=hk.size
  obtain ⟨va,vn,vc,rfl⟩:=own_slice hown
  clear hk hown hI hr hm HL HLV
  go_wp2_with fail
  refine (refValue rb s tr wr HR.out).mono ?_
  rintro e w1 ⟨hk1,a,rfl,hp⟩
  have hz1':wr.heap.size<=w1.heap.size:=hk1.size
  have HK1:=Z (HK.out.trans hk1)
  have hown1:=own_keeps hk1 (by omega) HO.out
  have HI1:=Z (HI.out.mono (fun t v=>RTree.keeps hk1))
  have HP:=Z hp
  clear hk1 hp
  go_wp2_with (at_builtin;refine wpList_append_own _ rfl (.tmp 8) (.tmp 11) 108 rfl w.heap.size 157 i0 _ 5 56 Tryz.underlying108 hi hz0 hz1 hz2 rfl (by decide) _ _ _ rfl (hown1.alloc _) ⟨w1.heap.size,0,none⟩ 1 1 [.string { data:=#[] },.string { data:=#[] },.int .i64 0,.pointer a,.bool false] rfl rfl ?c1 ?c2 ?c3 ?c4 ?c5 ?_)
  case c1=>exact news_at w1 [.string { data:=#[] },.string { data:=#[] },.int .i64 0,.pointer a,.bool false] 157
  case c2=>intro u hu;simp at hu;rcases hu with rfl|rfl|rfl|rfl|rfl <;> rfl
  case c3=>unfold maxLen;omega
  case c4=>omega
  case c5=>simp;have:=HK1.out.size;omega
  intro v' w2 hown2 hg2 hnil
  obtain ⟨ua,un,uc,rfl⟩:=own_slice hown2
  obtain ⟨hk2,hrt2,hrr2⟩:=push_all (s:=s) (C:=[.string { data:=#[] },.string { data:=#[] },.int .i64 0,.pointer a,.bool false]) hrb HK1.out hown1 hg2
  have HK2:=Z hk2
  have HRT2:=Z hrt2
  have HRR2:=Z hrr2
  have HO2:=Z hown2
  have hp:=HP.out
  clear hown2 hg2 hnil hk2 hrt2 hrr2 hown1 HO HP
  cases hv:Pl.pVal 20 tr with
  | none =>
   rw [hv] at hp
   obtain ⟨t1,d1,h1,h2,h3⟩:=hp
   have HM1:=Z (moreT rb s t1 d1 true w2 (HRT2.out _ _ _ h3))
   rw [isK_true,toK_true] at HM1
   have HN:Hid (sp=none):=by rw [<- HM.out];exact Pl.more_bad (by unfold Pl.iValue;rw [hv])
   clear h3 hv
   go_wp2_with fail
   refine (U HM1).mono ?_
   rintro e w3 ⟨rfl,hr3,hk3⟩
   go_wp2_with fail
   go_ret
   exact ⟨HK2.out.trans hk3,ua,un,uc,rfl,by rw [HN.out];exact ⟨t1,d1,h1,h2,hr3⟩⟩
  | some y =>
   obtain ⟨x,r⟩:=y
   rw [hv] at hp
   have hiv:Pl.iValue tr=some (⟨[],[],0,x,false⟩,r):=by unfold Pl.iValue;rw [hv]
   have HIV:=Z hiv
   have HX2:=Z (HRR2.out _ _ hp.1)
   have HM1:=Z (moreT rb s r 0 false w2 (HRT2.out _ _ _ hp.2))
   have HI2:Hid (ItemsAt w2 rb (its++[⟨[],[],0,x,false⟩]) (cs++itCells ⟨[],[],0,x,false⟩ (.pointer a))):=(HI1.out.mono HRR2.out).snoc HX2.out
   clear hp hv hiv
   go_wp2_with fail
   refine (U HM1).mono ?_
   rintro e w3 ⟨rfl,hr3,hk3⟩
   have HK3:=Z (HK2.out.trans hk3)
   have HO3:=Z (own_keeps hk3 hrb HO2.out)
   have HI3:=Z (HI2.out.mono (fun t v=>RTree.keeps hk3))
   by_cases h9:(Pl.hd r).k=9
   ·have hk9:isK r 9 false=true:=by simp [isK,h9]
    have hto:toK r 9 false=r.tail:=by unfold toK;rw [hk9];rfl
    rw [hto] at hr3
    rw [hk9]
    have hst:=Pl.more_step Pl.iValue_shr HIV.out h9 (acc:=its)
    have HR3:=Z hr3
    have HST:=Z hst
    clear hr3 hk3 hk9 hto h9 hst HM1
    go_wp2_with fail
    go_roundg (r.tail.length+1)
    case measure=>have:=HST.out.2;omega
    case rel=>exact ⟨its++[⟨[],[],0,x,false⟩],_,r.tail,HK3.out,by omega,by have:=HST.out.2;rw [List.length_append,List.length_singleton];omega,by rw [List.length_append];exact HO3.out,HI3.out,HR3.out,by rw [<- HM.out,HST.out.1]⟩
   ·have hk9:isK r 9 false=false:=by simp [isK,h9]
    have hto:toK r 9 false=r:=by unfold toK;rw [hk9];rfl
    rw [hto] at hr3
    rw [hk9]
    have HN:Hid (sp=some (its++[⟨[],[],0,x,false⟩],r)):=by rw [<- HM.out];exact Pl.more_end HIV.out h9
    clear hk3 hk9 hto h9 HM1
    go_wp2_with fail
    go_ret
    exact ⟨HK3.out,ua,un,uc,rfl,by rw [HN.out];exact ⟨⟨_,by rw [List.length_append];exact HO3.out,HI3.out⟩,hr3⟩⟩
theorem values_bad (rb:Nat)(s:ByteArray)(ts:List Pl.Tok)(d:Nat)(w:World)(hd:d<=21)(hR:RT w rb s ts d true) :
 Calls Tryz.prog 124 #[.pointer (some ⟨rb,0,none⟩)] w (PostI w rb s d none):=by
 have hrb:=hR.lt
 obtain ⟨i0,hi,hz0,hz1,hz2⟩:=info_parts Tryz.infoItem
 have HR0:=Z hR
 clear hR
 go_enter Tryz.func124,Tryz.ntmps124
 go_wp2_with fail
 go_loopg [3] 0 (fun g x wr=>x=.slice none 0 0/\wr=w)
 case atStart=>exact ⟨rfl,rfl⟩
 case round =>
  obtain ⟨rfl,rfl⟩:=hrel
  go_wp2_with fail
  refine (vbad0 rb s ts d _ hd HR0.out).mono ?_
  rintro e w1 ⟨hk1,a,rfl,t1,d1,h1,h2,h3⟩
  have HK1:=Z hk1
  have HR1:=Z h3
  have hown1:=World.ownsRow_nil w1 wr.heap.size 157 5
  have hsz:=hk1.size
  clear hk1 h3
  go_wp2_with (at_builtin;refine wpList_append_own _ rfl (.tmp 8) (.tmp 11) 108 rfl wr.heap.size 157 i0 _ 5 56 Tryz.underlying108 hi hz0 hz1 hz2 rfl (by decide) _ _ _ rfl (hown1.alloc _) ⟨w1.heap.size,0,none⟩ 1 1 [.string { data:=#[] },.string { data:=#[] },.int .i64 0,.pointer a,.bool false] rfl rfl ?c1 ?c2 ?c3 ?c4 ?c5 ?_)
  case c1=>exact news_at w1 [.string { data:=#[] },.string { data:=#[] },.int .i64 0,.pointer a,.bool false] 157
  case c2=>intro u hu;simp at hu;rcases hu with rfl|rfl|rfl|rfl|rfl <;> rfl
  case c3=>unfold maxLen;omega
  case c4=>omega
  case c5=>simp;omega
  intro v' w2 hown2 hg2 hnil
  obtain ⟨ua,un,uc,rfl⟩:=own_slice hown2
  obtain ⟨hk2,hrt2,hrr2⟩:=push_all (s:=s) (its:=[]) (C:=[.string { data:=#[] },.string { data:=#[] },.int .i64 0,.pointer a,.bool false]) hrb HK1.out hown1 hg2
  have HM1:=Z (moreT rb s t1 d1 true w2 (hrt2 _ _ _ HR1.out))
  rw [isK_true,toK_true] at HM1
  have HK2:=Z hk2
  clear hown2 hg2 hnil hk2 hrt2 hrr2 hown1
  go_wp2_with fail
  refine (U HM1).mono ?_
  rintro e w3 ⟨rfl,hr3,hk3⟩
  go_wp2_with fail
  go_ret
  exact ⟨HK2.out.trans hk3,ua,un,uc,rfl,t1,d1,h1,h2,hr3⟩
def kType:List Nat:=[48,49,50]
theorem strs_type (w:World):strsAt (w.alloc (.cells #[.string { data:=#[73,78,84] },.string { data:=#[84,69,88,84] },.string { data:=#[66,79,79,76] }] 9)) w.heap.size kType :=
 strs_new w kType _ _ rfl (by decide)
theorem type_none {r:List Pl.Tok}(h:Pl.typeOf (Pl.hd r).k=none):fstI r false kType 0=-1/\fstTo r false kType=r:=by
 have h':(Pl.hd r).k≠48/\(Pl.hd r).k≠49/\(Pl.hd r).k≠50:=by
  unfold Pl.typeOf at h
  repeat' (split at h)
  all_goals first|cases h;done|(refine ⟨?_,?_,?_⟩ <;> assumption)
 simp [fstI,fstTo,kType,isK,h']
theorem type_some {r:List Pl.Tok}{t:Int}(h:Pl.typeOf (Pl.hd r).k=some t):∃ i:Nat,i<3/\fstI r false kType 0=i/\fstTo r false kType=r.tail/\t=i+1:=by
 unfold Pl.typeOf at h
 repeat' (split at h)
 all_goals first
  | (cases h;rename_i hk;exact ⟨0,by omega,by simp [fstI,kType,isK,hk],by simp [fstTo,kType,isK,hk],rfl⟩)
  | (cases h;rename_i hk;exact ⟨1,by omega,by simp [fstI,kType,isK,hk],by simp [fstTo,kType,isK,hk],rfl⟩)
  | (cases h;rename_i hk;exact ⟨2,by omega,by simp [fstI,kType,isK,hk],by simp [fstTo,kType,isK,hk],rfl⟩)
  | cases h
theorem RT.wrong {w:World}{rb:Nat}{s:ByteArray}{ts:List Pl.Tok}{d:Nat}{b:Bool}(h:RT w rb s ts d b):RT (w.setCell ⟨rb,3,none⟩ (.bool true)) rb s ts d true:=by
 obtain ⟨p,h1,h2,h3,h4⟩:=h
 exact ⟨p,h1,h2,bS h3 3 _,h4⟩
theorem fields_any (rb:Nat)(s:ByteArray)(ts:List Pl.Tok)(d:Nat)(hd:d<=21)(b:Bool)(w:World)(hR:RT w rb s ts d b) :
 Calls Tryz.prog 123 #[.pointer (some ⟨rb,0,none⟩)] w (PostI w rb s d (if b=true then none else Pl.listed Pl.iField ts)):=by
 have hrb:=hR.lt
 obtain ⟨i0,hi,hz0,hz1,hz2⟩:=info_parts Tryz.infoItem
 have hlen:=hR.len
 have HLV:Hid (∃ sp',(if b=true then none else Pl.listed Pl.iField ts)=sp'/\ts.length+0<=1048576/\RT w rb s ts d b/\(b=false->Pl.more Pl.iField (ts.length+1) [] ts=sp')/\(b=true->sp'=none)):=by
  refine ⟨_,rfl,by omega,hR,?_,?_⟩
  ·rintro rfl;rfl
  ·rintro rfl;rfl
 obtain ⟨sp,hsp,_,_,hm0,hb0⟩:=HLV.out
 have HSP:=Z hsp
 have HM0:=Z hm0
 have HB0:=Z hb0
 have HR0:=Z hR
 rw [hsp]
 clear hsp hR hm0 hb0 HLV
 go_enter Tryz.func123,Tryz.ntmps123
 go_wp2_with fail
 go_loopg [3] (ts.length+1) (fun g x wr=>∃ its cs tr b',Hid (Keeps rb w wr/\tr.length<g/\its.length+tr.length<=1048576/\wr.ownsRow w.heap.size 157 5 x its.length cs/\ItemsAt wr rb its cs/\RT wr rb s tr d b'/\(b'=false->Pl.more Pl.iField (tr.length+1) its tr=sp)/\(b'=true->sp=none)))
 case atStart=>exact ⟨[],[],ts,b,Keeps.refl _ _,by omega,by simpa using hlen,World.ownsRow_nil _ _ _ _,rfl,HR0.out,HM0.out,HB0.out⟩
 case round =>
  obtain ⟨its,cs,tr,b',HL⟩:=hrel
  obtain ⟨hk,hg,hbd,hown,hI,hr,hm,hbb⟩:=HL.out
  have HK:=Z hk
  have HO:=Z hown
  have HI:=Z hI
  have HR:=Z hr
  have HM:=Z hm
  have HBB:=Z hbb
  have hsz:=hk.size
  obtain ⟨va,vn,vc,rfl⟩:=own_slice hown
  clear hk hown hI hr hm hbb HL HSP HM0 HB0 HR0
  go_wp2_with fail
  refine (nameT rb s tr d b' wr HR.out).mono ?_
  rintro e w1 ⟨rfl,hr1,hk1⟩
  have HR1:=Z hr1
  have HK1:=Z hk1
  have hlt1:=hr1.lt
  clear hr1 hk1
  by_cases hgood:b'=false/\(Pl.hd tr).k=1/\(Pl.typeOf (Pl.hd tr.tail).k).isSome=true
  ·obtain ⟨rfl,h1,hty⟩:=hgood
   obtain ⟨t,ht⟩:=Option.isSome_iff_exists.1 hty
   obtain ⟨i,hi3,hf1,hf2,hti⟩:=type_some ht
   have hi1:isK tr 1 false=true:=by simp [isK,h1]
   have hto:toK tr 1 false=tr.tail:=by unfold toK;rw [hi1];rfl
   have hr1:=HR1.out
   rw [hi1,hto] at hr1
   have e3:Hid (Pl.refB (Pl.hd tr)=⟨(Pl.hd tr).s.toArray⟩):=by simp [Hid,Pl.refB,Pl.refS,h1]
   rw [e3.out]
   have hiv:Pl.iField tr=some (⟨(Pl.hd tr).s,[],t,.nil,false⟩,tr.tail.tail):=by unfold Pl.iField;rw [if_pos h1,ht]
   rw [hti] at hiv
   have HIV:=Z hiv
   have HF:=Z (firstN kType 3 rfl w1.heap.size 3 rb s tr.tail d false _ (hr1.alloc (.cells #[.string { data:=#[73,78,84] },.string { data:=#[84,69,88,84] },.string { data:=#[66,79,79,76] }] 9)) (strs_type w1) (by omega) (by omega))
   rw [hf1,hf2] at HF
   generalize (Pl.hd tr).s=N at *
   clear hr1 h1 hty ht hf1 hf2 hti hi1 hto hiv e3
   go_wp2_with fail
   refine (U HF).mono ?_
   rintro e w2 ⟨rfl,hr2,hk2⟩
   have HKK:=Z ((HK1.out.alloc _).trans hk2)
   have HK2:=Z (HK.out.trans HKK.out)
   have hown2:=own_keeps HKK.out (by omega) HO.out
   have HI2:=Z (HI.out.mono (fun t v=>RTree.keeps HKK.out))
   have HR2:=Z hr2
   have hsz2:=HK2.out.size
   clear hr2 hk2 HF HKK
   go_wp2_with (at_builtin;refine wpList_append_own _ rfl (.tmp 17) (.tmp 22) 108 rfl w.heap.size 157 i0 _ 5 56 Tryz.underlying108 hi hz0 hz1 hz2 rfl (by decide) _ _ _ rfl (hown2.alloc _) ⟨w2.heap.size,0,none⟩ 1 1 [.string { data:=N.toArray },.string { data:=#[] },.int .i64 (i+1),.pointer none,.bool false] rfl rfl ?c1 ?c2 ?c3 ?c4 ?c5 ?_)
   case c1=>exact news_at w2 [.string { data:=N.toArray },.string { data:=#[] },.int .i64 (i+1),.pointer none,.bool false] 157
   case c2=>intro u hu;simp at hu;rcases hu with rfl|rfl|rfl|rfl|rfl <;> rfl
   case c3=>unfold maxLen;omega
   case c4=>omega
   case c5=>simp;omega
   intro v' w3 hown3 hg3 hnil
   obtain ⟨ua,un,uc,rfl⟩:=own_slice hown3
   obtain ⟨hk3,hrt3,hrr3⟩:=push_all (s:=s) (C:=[.string { data:=N.toArray },.string { data:=#[] },.int .i64 (i+1),.pointer none,.bool false]) hrb HK2.out hown2 hg3
   have HK3:=Z hk3
   have HO3:=Z hown3
   have HM1:=Z (moreT rb s tr.tail.tail d false w3 (hrt3 _ _ _ HR2.out))
   have HI3:Hid (ItemsAt w3 rb (its++[⟨N,[],(i:Int)+1,.nil,false⟩]) (cs++itCells ⟨N,[],(i:Int)+1,.nil,false⟩ (.pointer none))):=(HI2.out.mono hrr3).snoc (show RTree w3 rb .nil (.pointer none) from rfl)
   clear hown3 hg3 hnil hk3 hrt3 hrr3 hown2 HO
   go_wp2_with fail
   refine (U HM1).mono ?_
   rintro e w4 ⟨rfl,hr4,hk4⟩
   have HK4:=Z (HK3.out.trans hk4)
   have HO4:=Z (own_keeps hk4 hrb HO3.out)
   have HI4:=Z (HI3.out.mono (fun t v=>RTree.keeps hk4))
   by_cases h9:(Pl.hd tr.tail.tail).k=9
   ·have hk9:isK tr.tail.tail 9 false=true:=by simp [isK,h9]
    have hto:toK tr.tail.tail 9 false=tr.tail.tail.tail:=by unfold toK;rw [hk9];rfl
    rw [hto] at hr4
    rw [hk9]
    have hst:=Pl.more_step Pl.iField_shr HIV.out h9 (acc:=its)
    have HR4:=Z hr4
    have HST:=Z hst
    clear hr4 hk4 hk9 hto h9 hst HM1
    go_wp2_with fail
    go_roundg (tr.tail.tail.tail.length+1)
    case measure=>have:=HST.out.2;omega
    case rel=>exact ⟨its++[⟨N,[],(i:Int)+1,.nil,false⟩],_,tr.tail.tail.tail,false,HK4.out,by omega,by have:=HST.out.2;rw [List.length_append,List.length_singleton];omega,by rw [List.length_append];exact HO4.out,HI4.out,HR4.out,fun _=>by rw [<- HM.out (by first|rfl|trivial),HST.out.1],fun h=>by cases h⟩
   ·have hk9:isK tr.tail.tail 9 false=false:=by simp [isK,h9]
    have hto:toK tr.tail.tail 9 false=tr.tail.tail:=by unfold toK;rw [hk9];rfl
    rw [hto] at hr4
    rw [hk9]
    have HN:Hid (sp=some (its++[⟨N,[],(i:Int)+1,.nil,false⟩],tr.tail.tail)):=by rw [<- HM.out (by first|rfl|trivial)];exact Pl.more_end HIV.out h9
    clear hk4 hk9 hto h9 HM1
    go_wp2_with fail
    go_ret
    exact ⟨HK4.out,ua,un,uc,rfl,by rw [HN.out];exact ⟨⟨_,by rw [List.length_append];exact HO4.out,HI4.out⟩,hr4⟩⟩
  ·have hbad:∃ X b1,Hid (toK tr 1 b'=X/\(!isK tr 1 b')=b1)/\fstI X b1 kType 0=-1/\fstTo X b1 kType=X/\sp=none:=by
    refine ⟨_,_,⟨rfl,rfl⟩,?_⟩
    by_cases h1:isK tr 1 b'=true
    ·have hb':b'=false:=by cases b' <;> simp [isK] at h1 ⊢
     subst hb'
     have hk1:(Pl.hd tr).k=1:=by simpa [isK] using h1
     have hto:toK tr 1 false=tr.tail:=by unfold toK;rw [h1];rfl
     have hty:Pl.typeOf (Pl.hd tr.tail).k=none:=by
      cases h:Pl.typeOf (Pl.hd tr.tail).k with
      | none=>rfl
      | some t=>exact absurd ⟨rfl,hk1,by rw [h];rfl⟩ hgood
     rw [h1,hto]
     have:=type_none hty
     exact ⟨this.1,this.2,by rw [<- HM.out rfl];exact Pl.more_bad (by unfold Pl.iField;rw [if_pos hk1,hty])⟩
    ·have h1':isK tr 1 b'=false:=by simpa using h1
     rw [h1']
     refine ⟨(fst_bad _ _).1,(fst_bad _ _).2,?_⟩
     cases b' with
     | true=>exact HBB.out rfl
     | false =>
      have hk1:(Pl.hd tr).k≠1:=by simpa [isK] using h1'
      rw [<- HM.out rfl];exact Pl.more_bad (by unfold Pl.iField;rw [if_neg hk1])
   obtain ⟨X,b1,hXb,hf1,hf2,hspn⟩:=hbad
   have hr1:=HR1.out
   rw [hXb.out.1,hXb.out.2] at hr1
   have HF:=Z (firstN kType 3 rfl w1.heap.size 3 rb s X d b1 _ (hr1.alloc (.cells #[.string { data:=#[73,78,84] },.string { data:=#[84,69,88,84] },.string { data:=#[66,79,79,76] }] 9)) (strs_type w1) (by omega) (by omega))
   rw [hf1,hf2] at HF
   have HSN:=Z hspn
   generalize Pl.refB (Pl.hd tr)=N at *
   clear hr1 hgood hXb hf1 hf2 hspn
   go_wp2_with fail
   refine (U HF).mono ?_
   rintro e w2 ⟨rfl,hr2,hk2⟩
   obtain ⟨r2,r3,rf⟩:=hr2.c
   have HKK:=Z (((HK1.out.alloc _).trans hk2).set 3 (.bool true))
   have HK2:=Z (HK.out.trans HKK.out)
   have hown2:=own_keeps HKK.out (by omega) HO.out
   have HR2:=Z hr2.wrong
   have hsz2:=HK2.out.size
   simp only [size_set] at hsz2
   clear hr2 hk2 HF HKK
   go_wp2_with (at_builtin;refine wpList_append_own _ rfl (.tmp 17) (.tmp 22) 108 rfl w.heap.size 157 i0 _ 5 56 Tryz.underlying108 hi hz0 hz1 hz2 rfl (by decide) _ _ _ rfl (hown2.alloc _) ⟨w2.heap.size,0,none⟩ 1 1 [.string N,.string { data:=#[] },.int .i64 0,.pointer none,.bool false] rfl rfl ?c1 ?c2 ?c3 ?c4 ?c5 ?_)
   case c1 =>
    have:=news_at (w2.setCell ⟨rb,3,none⟩ (.bool true)) [.string N,.string { data:=#[] },.int .i64 0,.pointer none,.bool false] 157
    rw [size_set] at this
    exact this
   case c2=>intro u hu;simp at hu;rcases hu with rfl|rfl|rfl|rfl|rfl <;> rfl
   case c3=>unfold maxLen;omega
   case c4=>omega
   case c5=>simp;omega
   intro v' w3 hown3 hg3 hnil
   obtain ⟨ua,un,uc,rfl⟩:=own_slice hown3
   obtain ⟨hk3,hrt3,hrr3⟩:=push_all (s:=s) (C:=[.string N,.string { data:=#[] },.int .i64 0,.pointer none,.bool false]) hrb HK2.out hown2 hg3
   have HK3:=Z hk3
   have HM1:=Z (moreT rb s X d true w3 (hrt3 _ _ _ HR2.out))
   rw [isK_true,toK_true] at HM1
   clear hown3 hg3 hnil hk3 hrt3 hrr3 hown2 HO
   go_wp2_with fail
   refine (U HM1).mono ?_
   rintro e w4 ⟨rfl,hr4,hk4⟩
   go_wp2_with fail
   go_ret
   exact ⟨HK3.out.trans hk4,ua,un,uc,rfl,by rw [HSN.out];exact ⟨X,d,Nat.le_refl _,hd,hr4⟩⟩
theorem valAny (rb:Nat)(s:ByteArray)(ts:List Pl.Tok)(d:Nat)(b:Bool)(w:World)(hd:d<=21)(hb:b=false->d=0)(hR:RT w rb s ts d b) :
 Calls Tryz.prog 185 #[.pointer (some ⟨rb,0,none⟩),.int .i64 0] w (PostV w rb s d (bsp b (Pl.pVal 20 ts))):=by
 cases b with
 | false=>have:=hb rfl;subst this;exact refValue rb s ts w hR
 | true=>exact vbad0 rb s ts d w hd hR
theorem sets_any (rb:Nat)(s:ByteArray)(ts:List Pl.Tok)(d:Nat)(hd:d<=21)(b:Bool)(hb00:b=false->d=0)(w:World)(hR:RT w rb s ts d b) :
 Calls Tryz.prog 126 #[.pointer (some ⟨rb,0,none⟩)] w (PostI w rb s d (if b=true then none else Pl.listed Pl.iSet ts)):=by
 have hrb:=hR.lt
 obtain ⟨i0,hi,hz0,hz1,hz2⟩:=info_parts Tryz.infoItem
 have hlen:=hR.len
 have HLV:Hid (∃ sp',(if b=true then none else Pl.listed Pl.iSet ts)=sp'/\RT w rb s ts d b/\(b=false->Pl.more Pl.iSet (ts.length+1) [] ts=sp')/\(b=true->sp'=none)):=by
  refine ⟨_,rfl,hR,?_,?_⟩
  ·rintro rfl;rfl
  ·rintro rfl;rfl
 obtain ⟨sp,hsp,_,hm0,hb0⟩:=HLV.out
 have HM0:=Z hm0
 have HB0:=Z hb0
 have HB00:=Z hb00
 have HR0:=Z hR
 rw [hsp]
 clear hsp hR hm0 hb0 HLV hb00
 go_enter Tryz.func126,Tryz.ntmps126
 go_wp2_with fail
 go_loopg [3] (ts.length+1) (fun g x wr=>∃ its cs tr b',Hid (Keeps rb w wr/\tr.length<g/\its.length+tr.length<=1048576/\wr.ownsRow w.heap.size 157 5 x its.length cs/\ItemsAt wr rb its cs/\RT wr rb s tr d b'/\(b'=false->Pl.more Pl.iSet (tr.length+1) its tr=sp)/\(b'=true->sp=none)/\(b'=false->d=0)))
 case atStart=>exact ⟨[],[],ts,b,Keeps.refl _ _,by omega,by simpa using hlen,World.ownsRow_nil _ _ _ _,rfl,HR0.out,HM0.out,HB0.out,HB00.out⟩
 case round =>
  obtain ⟨its,cs,tr,b',HL⟩:=hrel
  obtain ⟨hk,hg,hbd,hown,hI,hr,hm,hbb,hb00⟩:=HL.out
  have HK:=Z hk
  have HO:=Z hown
  have HI:=Z hI
  have HR:=Z hr
  have HM:=Z hm
  have HBB:=Z hbb
  have HB00':=Z hb00
  have hsz:=hk.size
  obtain ⟨va,vn,vc,rfl⟩:=own_slice hown
  clear hk hown hI hr hm hbb HL HM0 HB0 HR0 HB00 hb00
  have hst:∃ X b1,X=toK (toK tr 1 b') 12 (!isK tr 1 b')/\b1=(!isK (toK tr 1 b') 12 (!isK tr 1 b'))/\(b1=false->b'=false/\(Pl.hd tr).k=1/\(Pl.hd tr.tail).k=12/\X=tr.tail.tail)/\(b1=true->Hid (sp=none)):=by
   refine ⟨_,_,rfl,rfl,?_,?_⟩
   ·intro h
    have h2:isK (toK tr 1 b') 12 (!isK tr 1 b')=true:=by simpa using h
    have h3:(!isK tr 1 b')=false:=by
     unfold isK at h2;simp at h2;simpa [isK] using h2.1
    have h4:isK tr 1 b'=true:=by simpa using h3
    have h5:b'=false:=by cases b' <;> simp [isK] at h4 ⊢
    subst h5
    have h6:toK tr 1 false=tr.tail:=by unfold toK;rw [h4];rfl
    rw [h6,h3] at h2 ⊢
    have h7:toK tr.tail 12 false=tr.tail.tail:=by unfold toK;rw [h2];rfl
    exact ⟨rfl,by simpa [isK] using h4,by simpa [isK] using h2,h7⟩
   ·intro h
    have h2:isK (toK tr 1 b') 12 (!isK tr 1 b')=false:=by simpa using h
    cases b' with
    | true=>exact HBB.out rfl
    | false =>
     show sp=none
     rw [<- HM.out rfl]
     refine Pl.more_bad ?_
     unfold Pl.iSet
     by_cases h1:(Pl.hd tr).k=1
     ·have h4:isK tr 1 false=true:=by simp [isK,h1]
      have h6:toK tr 1 false=tr.tail:=by unfold toK;rw [h4];rfl
      rw [h4,h6] at h2
      have h5:(Pl.hd tr.tail).k≠12:=by simpa [isK] using h2
      rw [if_pos h1,if_neg h5]
     ·rw [if_neg h1]
  obtain ⟨X,b1,hX,hb1,hgood,hbad⟩:=hst
  have HX:=Z hX
  have HB1:=Z hb1
  have HG:=Z hgood
  have HBD:=Z hbad
  clear hX hb1 hgood hbad
  go_wp2_with fail
  refine (nameT rb s tr d b' wr HR.out).mono ?_
  rintro e w1 ⟨rfl,hr1,hk1⟩
  have HK1:=Z hk1
  have HN2:=Z (needT 12 (by decide) (by decide) rb s (toK tr 1 b') d (!isK tr 1 b') { data:=#[61] } rfl w1 hr1)
  rw [<- HX.out,<- HB1.out] at HN2
  clear hr1 hk1
  go_wp2_with fail
  refine (U HN2).mono ?_
  rintro e w2 ⟨rfl,hr2,hk2⟩
  have HK2:=Z (HK1.out.trans hk2)
  have HV:=Z (valAny rb s X d b1 w2 hd (fun h=>HB00'.out (HG.out h).1) hr2)
  clear hr2 hk2 HN2 HK1
  go_wp2_with fail
  refine (U HV).mono ?_
  rintro e w3 ⟨hk3,a,rfl,hp⟩
  have HK3:=Z (HK2.out.trans hk3)
  have hown3:=own_keeps HK3.out (by omega) HO.out
  have HI3:=Z (HI.out.mono (fun t v=>RTree.keeps HK3.out))
  have HKw:=Z (HK.out.trans HK3.out)
  have hsz3:=HKw.out.size
  have HP:=Z hp
  clear hk3 hp HV HK2 HK3 HO
  generalize hNm:Pl.refB (Pl.hd tr)=N at *
  have HNm:=Z hNm
  clear hNm
  go_wp2_with (at_builtin;refine wpList_append_own _ rfl (.tmp 13) (.tmp 17) 108 rfl w.heap.size 157 i0 _ 5 56 Tryz.underlying108 hi hz0 hz1 hz2 rfl (by decide) _ _ _ rfl (hown3.alloc _) ⟨w3.heap.size,0,none⟩ 1 1 [.string N,.string { data:=#[] },.int .i64 0,.pointer a,.bool false] rfl rfl ?c1 ?c2 ?c3 ?c4 ?c5 ?_)
  case c1=>exact news_at w3 [.string N,.string { data:=#[] },.int .i64 0,.pointer a,.bool false] 157
  case c2=>intro u hu;simp at hu;rcases hu with rfl|rfl|rfl|rfl|rfl <;> rfl
  case c3=>unfold maxLen;omega
  case c4=>omega
  case c5=>simp;omega
  intro v' w4 hown4 hg4 hnil
  obtain ⟨ua,un,uc,rfl⟩:=own_slice hown4
  obtain ⟨hk4,hrt4,hrr4⟩:=push_all (s:=s) (C:=[.string N,.string { data:=#[] },.int .i64 0,.pointer a,.bool false]) hrb HKw.out hown3 hg4
  have HK4:=Z hk4
  have HRT4:=Z hrt4
  have HRR4:=Z hrr4
  have HO4:=Z hown4
  have hp:=HP.out
  clear hown4 hg4 hnil hk4 hrt4 hrr4 hown3 HP
  cases hv:bsp b1 (Pl.pVal 20 X) with
  | none =>
   rw [hv] at hp
   obtain ⟨t1,d1,h1,h2,h3⟩:=hp
   have HM1:=Z (moreT rb s t1 d1 true w4 (HRT4.out _ _ _ h3))
   rw [isK_true,toK_true] at HM1
   have HN:Hid (sp=none):=by
    cases b1 with
    | true=>exact (HBD.out rfl).out
    | false =>
     obtain ⟨rfl,g1,g2,g3⟩:=HG.out rfl
     show sp=none
     rw [<- HM.out rfl]
     refine Pl.more_bad ?_
     unfold Pl.iSet
     rw [if_pos g1,if_pos g2,<- g3]
     have:Pl.pVal 20 X=none:=hv
     rw [this]
   clear h3 hv
   go_wp2_with fail
   refine (U HM1).mono ?_
   rintro e w5 ⟨rfl,hr5,hk5⟩
   go_wp2_with fail
   go_ret
   exact ⟨HK4.out.trans hk5,ua,un,uc,rfl,by rw [HN.out];exact ⟨t1,d1,h1,h2,hr5⟩⟩
  | some y =>
   obtain ⟨x,r⟩:=y
   rw [hv] at hp
   cases b1 with
   | true=>cases hv
   | false =>
    obtain ⟨rfl,g1,g2,g3⟩:=HG.out rfl
    have hiv:Pl.iSet tr=some (⟨(Pl.hd tr).s,[],0,x,false⟩,r):=by
     unfold Pl.iSet
     rw [if_pos g1,if_pos g2,<- g3]
     have:Pl.pVal 20 X=some (x,r):=hv
     rw [this]
    have HIV:=Z hiv
    have hN:N=⟨(Pl.hd tr).s.toArray⟩:=by rw [<- HNm.out];simp [Pl.refB,Pl.refS,g1]
    have HX2:=Z (HRR4.out _ _ hp.1)
    have HM1:=Z (moreT rb s r d false w4 (HRT4.out _ _ _ hp.2))
    have HI4:Hid (ItemsAt w4 rb (its++[⟨(Pl.hd tr).s,[],0,x,false⟩]) (cs++itCells ⟨(Pl.hd tr).s,[],0,x,false⟩ (.pointer a))):=(HI3.out.mono HRR4.out).snoc HX2.out
    have hO4:=HO4.out
    rw [hN] at hO4
    have HO4':=Z hO4
    clear hp hv hiv g1 g2 g3 hN HO4 hO4 HX HB1 HNm
    go_wp2_with fail
    refine (U HM1).mono ?_
    rintro e w5 ⟨rfl,hr5,hk5⟩
    have HK5:=Z (HK4.out.trans hk5)
    have HO5:=Z (own_keeps hk5 hrb HO4'.out)
    have HI5:=Z (HI4.out.mono (fun t v=>RTree.keeps hk5))
    by_cases h9:(Pl.hd r).k=9
    ·have hk9:isK r 9 false=true:=by simp [isK,h9]
     have hto:toK r 9 false=r.tail:=by unfold toK;rw [hk9];rfl
     rw [hto] at hr5
     rw [hk9]
     have hst:=Pl.more_step Pl.iSet_shr HIV.out h9 (acc:=its)
     have HR5:=Z hr5
     have HST:=Z hst
     clear hr5 hk5 hk9 hto h9 hst HM1
     go_wp2_with fail
     go_roundg (r.tail.length+1)
     case measure=>have:=HST.out.2;omega
     case rel=>exact ⟨its++[⟨(Pl.hd tr).s,[],0,x,false⟩],_,r.tail,false,HK5.out,by omega,by have:=HST.out.2;rw [List.length_append,List.length_singleton];omega,by rw [List.length_append];exact HO5.out,HI5.out,HR5.out,fun _=>by rw [<- HM.out (by first|rfl|trivial),HST.out.1],(fun h=>by cases h),fun _=>HB00'.out (by first|rfl|trivial)⟩
    ·have hk9:isK r 9 false=false:=by simp [isK,h9]
     have hto:toK r 9 false=r:=by unfold toK;rw [hk9];rfl
     rw [hto] at hr5
     rw [hk9]
     have HN:Hid (sp=some (its++[⟨(Pl.hd tr).s,[],0,x,false⟩],r)):=by rw [<- HM.out (by first|rfl|trivial)];exact Pl.more_end HIV.out h9
     clear hk5 hk9 hto h9 HM1
     go_wp2_with fail
     go_ret
     exact ⟨HK5.out,ua,un,uc,rfl,by rw [HN.out];exact ⟨⟨_,by rw [List.length_append];exact HO5.out,HI5.out⟩,hr5⟩⟩
theorem keys_any (rb:Nat)(s:ByteArray)(ts:List Pl.Tok)(d:Nat)(hd:d<=21)(b:Bool)(hb00:b=false->d=0)(w:World)(hR:RT w rb s ts d b) :
 Calls Tryz.prog 187 #[.pointer (some ⟨rb,0,none⟩)] w (PostI w rb s d (if b=true then none else Pl.listed Pl.iKey ts)):=by
 have hrb:=hR.lt
 obtain ⟨i0,hi,hz0,hz1,hz2⟩:=info_parts Tryz.infoItem
 have hlen:=hR.len
 have HLV:Hid (∃ sp',(if b=true then none else Pl.listed Pl.iKey ts)=sp'/\RT w rb s ts d b/\(b=false->Pl.more Pl.iKey (ts.length+1) [] ts=sp')/\(b=true->sp'=none)):=by
  refine ⟨_,rfl,hR,?_,?_⟩
  ·rintro rfl;rfl
  ·rintro rfl;rfl
 obtain ⟨sp,hsp,_,hm0,hb0⟩:=HLV.out
 have HM0:=Z hm0
 have HB0:=Z hb0
 have HB00:=Z hb00
 have HR0:=Z hR
 rw [hsp]
 clear hsp hR hm0 hb0 HLV hb00
 go_enter Tryz.func187,Tryz.ntmps187
 go_wp2_with fail
 go_loopg [3] (ts.length+1) (fun g x wr=>∃ its cs tr b',Hid (Keeps rb w wr/\tr.length<g/\its.length+tr.length<=1048576/\wr.ownsRow w.heap.size 157 5 x its.length cs/\ItemsAt wr rb its cs/\RT wr rb s tr d b'/\(b'=false->Pl.more Pl.iKey (tr.length+1) its tr=sp)/\(b'=true->sp=none)/\(b'=false->d=0)))
 case atStart=>exact ⟨[],[],ts,b,Keeps.refl _ _,by omega,by simpa using hlen,World.ownsRow_nil _ _ _ _,rfl,HR0.out,HM0.out,HB0.out,HB00.out⟩
 case round =>
  obtain ⟨its,cs,tr,b',HL⟩:=hrel
  obtain ⟨hk,hg,hbd,hown,hI,hr,hm,hbb,hb00⟩:=HL.out
  have HK:=Z hk
  have HO:=Z hown
  have HI:=Z hI
  have HR:=Z hr
  have HM:=Z hm
  have HBB:=Z hbb
  have HB00':=Z hb00
  have hsz:=hk.size
  obtain ⟨va,vn,vc,rfl⟩:=own_slice hown
  clear hk hown hI hr hm hbb HL HM0 HB0 HR0 HB00 hb00
  go_wp2_with fail
  refine (valAny rb s tr d b' wr hd HB00'.out HR.out).mono ?_
  rintro e w1 ⟨hk1,a,rfl,hp⟩
  have HK1:=Z hk1
  clear hk1
  cases hv:bsp b' (Pl.pVal 20 tr) with
  | none =>
   rw [hv] at hp
   obtain ⟨t1,d1,h1,h2,h3⟩:=hp
   have HN:Hid (sp=none):=by
    cases b' with
    | true=>exact HBB.out rfl
    | false =>
     show sp=none
     rw [<- HM.out rfl]
     refine Pl.more_bad ?_
     unfold Pl.iKey
     have:Pl.pVal 20 tr=none:=hv
     rw [this]
   have HF:=Z (fitsT 38 (by decide) (by decide) rb s t1 d1 true { data:=#[68,69,83,67] } rfl w1 h3)
   rw [isK_true,toK_true] at HF
   clear h3 hv
   go_wp2_with fail
   refine (U HF).mono ?_
   rintro e w3 ⟨rfl,hr3,hk3⟩
   have HKK:=Z (HK1.out.trans hk3)
   have hown3:=own_keeps HKK.out (by omega) HO.out
   have HKw:=Z (HK.out.trans HKK.out)
   have hsz3:=HKw.out.size
   have HR3:=Z hr3
   clear hk3 hr3 HF HKK HO
   go_wp2_with (at_builtin;refine wpList_append_own _ rfl (.tmp 11) (.tmp 15) 108 rfl w.heap.size 157 i0 _ 5 56 Tryz.underlying108 hi hz0 hz1 hz2 rfl (by decide) _ _ _ rfl (hown3.alloc _) ⟨w3.heap.size,0,none⟩ 1 1 [.string { data:=#[] },.string { data:=#[] },.int .i64 0,.pointer a,.bool false] rfl rfl ?c1 ?c2 ?c3 ?c4 ?c5 ?_)
   case c1=>exact news_at w3 [.string { data:=#[] },.string { data:=#[] },.int .i64 0,.pointer a,.bool false] 157
   case c2=>intro u hu;simp at hu;rcases hu with rfl|rfl|rfl|rfl|rfl <;> rfl
   case c3=>unfold maxLen;omega
   case c4=>omega
   case c5=>simp;omega
   intro v' w4 hown4 hg4 hnil
   obtain ⟨ua,un,uc,rfl⟩:=own_slice hown4
   obtain ⟨hk4,hrt4,hrr4⟩:=push_all (s:=s) (C:=[.string { data:=#[] },.string { data:=#[] },.int .i64 0,.pointer a,.bool false]) hrb HKw.out hown3 hg4
   have HK4:=Z hk4
   have HM1:=Z (moreT rb s t1 d1 true w4 (hrt4 _ _ _ HR3.out))
   rw [isK_true,toK_true] at HM1
   clear hown4 hg4 hnil hk4 hrt4 hrr4 hown3
   go_wp2_with fail
   refine (U HM1).mono ?_
   rintro e w5 ⟨rfl,hr5,hk5⟩
   go_wp2_with fail
   go_ret
   exact ⟨HK4.out.trans hk5,ua,un,uc,rfl,by rw [HN.out];exact ⟨t1,d1,h1,h2,hr5⟩⟩
  | some y =>
   obtain ⟨x,r⟩:=y
   rw [hv] at hp
   cases b' with
   | true=>cases hv
   | false =>
    have hiv:Pl.iKey tr=some (⟨[],[],0,x,isK r 38 false⟩,toK r 38 false):=by
     unfold Pl.iKey
     have:Pl.pVal 20 tr=some (x,r):=hv
     rw [this]
     simp only
     by_cases h38:(Pl.hd r).k=38
     ·have h:isK r 38 false=true:=by simp [isK,h38]
      rw [if_pos h38];unfold toK;rw [h];rfl
     ·have h:isK r 38 false=false:=by simp [isK,h38]
      rw [if_neg h38];unfold toK;rw [h];rfl
    have HIV:=Z hiv
    have HX1:=Z hp.1
    have HF:=Z (fitsT 38 (by decide) (by decide) rb s r d false { data:=#[68,69,83,67] } rfl w1 hp.2)
    generalize isK r 38 false=mk at *
    generalize toK r 38 false=r2 at *
    clear hp hv hiv
    go_wp2_with fail
    refine (U HF).mono ?_
    rintro e w3 ⟨rfl,hr3,hk3⟩
    have HKK:=Z (HK1.out.trans hk3)
    have hown3:=own_keeps HKK.out (by omega) HO.out
    have HI3:=Z (HI.out.mono (fun t v=>RTree.keeps HKK.out))
    have HX3:=Z (HX1.out.keeps hk3)
    have HKw:=Z (HK.out.trans HKK.out)
    have hsz3:=HKw.out.size
    have HR3:=Z hr3
    clear hk3 hr3 HF HKK HO HX1
    go_wp2_with (at_builtin;refine wpList_append_own _ rfl (.tmp 11) (.tmp 15) 108 rfl w.heap.size 157 i0 _ 5 56 Tryz.underlying108 hi hz0 hz1 hz2 rfl (by decide) _ _ _ rfl (hown3.alloc _) ⟨w3.heap.size,0,none⟩ 1 1 [.string { data:=#[] },.string { data:=#[] },.int .i64 0,.pointer a,.bool mk] rfl rfl ?c1 ?c2 ?c3 ?c4 ?c5 ?_)
    case c1=>exact news_at w3 [.string { data:=#[] },.string { data:=#[] },.int .i64 0,.pointer a,.bool mk] 157
    case c2=>intro u hu;simp at hu;rcases hu with rfl|rfl|rfl|rfl|rfl <;> rfl
    case c3=>unfold maxLen;omega
    case c4=>omega
    case c5=>simp;omega
    intro v' w4 hown4 hg4 hnil
    obtain ⟨ua,un,uc,rfl⟩:=own_slice hown4
    obtain ⟨hk4,hrt4,hrr4⟩:=push_all (s:=s) (C:=[.string { data:=#[] },.string { data:=#[] },.int .i64 0,.pointer a,.bool mk]) hrb HKw.out hown3 hg4
    have HK4:=Z hk4
    have HO4:=Z hown4
    have HX4:=Z (hrr4 _ _ HX3.out)
    have HI4:Hid (ItemsAt w4 rb (its++[⟨[],[],0,x,mk⟩]) (cs++itCells ⟨[],[],0,x,mk⟩ (.pointer a))):=(HI3.out.mono hrr4).snoc HX4.out
    have HM1:=Z (moreT rb s r2 d false w4 (hrt4 _ _ _ HR3.out))
    clear hown4 hg4 hnil hk4 hrt4 hrr4 hown3
    go_wp2_with fail
    refine (U HM1).mono ?_
    rintro e w5 ⟨rfl,hr5,hk5⟩
    have HK5:=Z (HK4.out.trans hk5)
    have HO5:=Z (own_keeps hk5 hrb HO4.out)
    have HI5:=Z (HI4.out.mono (fun t v=>RTree.keeps hk5))
    by_cases h9:(Pl.hd r2).k=9
    ·have hk9:isK r2 9 false=true:=by simp [isK,h9]
     have hto:toK r2 9 false=r2.tail:=by unfold toK;rw [hk9];rfl
     rw [hto] at hr5
     rw [hk9]
     have hst:=Pl.more_step Pl.iKey_shr HIV.out h9 (acc:=its)
     have HR5:=Z hr5
     have HST:=Z hst
     clear hr5 hk5 hk9 hto h9 hst HM1
     go_wp2_with fail
     go_roundg (r2.tail.length+1)
     case measure=>have:=HST.out.2;omega
     case rel=>exact ⟨its++[⟨[],[],0,x,mk⟩],_,r2.tail,false,HK5.out,by omega,by have:=HST.out.2;rw [List.length_append,List.length_singleton];omega,by rw [List.length_append];exact HO5.out,HI5.out,HR5.out,fun _=>by rw [<- HM.out (by first|rfl|trivial),HST.out.1],(fun h=>by cases h),fun _=>HB00'.out (by first|rfl|trivial)⟩
    ·have hk9:isK r2 9 false=false:=by simp [isK,h9]
     have hto:toK r2 9 false=r2:=by unfold toK;rw [hk9];rfl
     rw [hto] at hr5
     rw [hk9]
     have HN:Hid (sp=some (its++[⟨[],[],0,x,mk⟩],r2)):=by rw [<- HM.out (by first|rfl|trivial)];exact Pl.more_end HIV.out h9
     clear hk5 hk9 hto h9 HM1
     go_wp2_with fail
     go_ret
     exact ⟨HK5.out,ua,un,uc,rfl,by rw [HN.out];exact ⟨⟨_,by rw [List.length_append];exact HO5.out,HI5.out⟩,hr5⟩⟩
def PostSr (w:World)(rb:Nat)(s:ByteArray)(d:Nat)(spec:Option (Pl.It × List Pl.Tok))(e:Ending)(w':World):Prop :=
 Keeps rb w w'/\∃ N O:ByteArray,e=.returned (.agg #[.string N,.string O,.int .i64 0,.pointer none,.bool false])/\match spec with
  | some (it,r)=>N=⟨it.name.toArray⟩/\O=⟨it.other.toArray⟩/\RT w' rb s r d false
  | none=>∃ ts',RT w' rb s ts' d true
def bspI (b:Bool)(x:Option (Pl.It × List Pl.Tok)):Option (Pl.It × List Pl.Tok):=if b=true then none else x
theorem set5_keeps {rb:Nat}{w w1:World}(h:Keeps rb w w1)(a b c e f:Value):Keeps rb w (((((w1.setCell ⟨w.heap.size,0,none⟩ a).setCell ⟨w.heap.size,1,none⟩ b).setCell ⟨w.heap.size,2,none⟩ c).setCell ⟨w.heap.size,3,none⟩ e).setCell ⟨w.heap.size,4,none⟩ f) :=
 ((((h.setNew (Nat.le_refl _) _).setNew (Nat.le_refl _) _).setNew (Nat.le_refl _) _).setNew (Nat.le_refl _) _).setNew (Nat.le_refl _) _
theorem set5_rt {w w1:World}{rb:Nat}{s:ByteArray}{ts:List Pl.Tok}{d:Nat}{q:Bool}(hne:rb≠w.heap.size)(h:RT w1 rb s ts d q)(a b c e f:Value) :
 RT (((((w1.setCell ⟨w.heap.size,0,none⟩ a).setCell ⟨w.heap.size,1,none⟩ b).setCell ⟨w.heap.size,2,none⟩ c).setCell ⟨w.heap.size,3,none⟩ e).setCell ⟨w.heap.size,4,none⟩ f) rb s ts d q:=by
 obtain ⟨p,h1,h2,h3,h4⟩:=h
 exact ⟨p,h1,h2,blk_set_ne (blk_set_ne (blk_set_ne (blk_set_ne (blk_set_ne h3 hne _ _) hne _ _) hne _ _) hne _ _) hne _ _,h4⟩
theorem source_any (rb:Nat)(s:ByteArray)(ts:List Pl.Tok)(d:Nat)(b:Bool)(w:World)(hR:RT w rb s ts d b) :
 Calls Tryz.prog 239 #[.pointer (some ⟨rb,0,none⟩)] w (PostSr w rb s d (bspI b (Pl.iSource ts))):=by
 have hrb:=hR.lt
 have hne:rb≠w.heap.size:=by omega
 have HC:=Z (nameT rb s ts d b _ (hR.alloc (.cells #[.string { data:=#[] },.string { data:=#[] },.int .i64 0,.pointer none,.bool false] 157)))
 clear hR
 go_enter Tryz.func239,Tryz.ntmps239
 go_wp2_with fail
 refine (U HC).mono ?_
 rintro e w1 ⟨rfl,hr1,hk1⟩
 have hbx1:=hk1.blk (Ne.symm hne) (blk_new w _)
 have HBX1:=Z hbx1
 have HK1:=Z (((Keeps.refl rb w).alloc _).trans hk1)
 have HF:=Z (fitsT 32 (by decide) (by decide) rb s _ d _ { data:=#[65,83] } rfl w1 hr1)
 clear hr1 hk1 hbx1 HC
 go_wp2_with fail
 refine (U HF).mono ?_
 rintro e w2 ⟨rfl,hr2,hk2⟩
 have hbx2:=hk2.blk (Ne.symm hne) HBX1.out
 have HK2:=Z (HK1.out.trans hk2)
 have HR2:=Z hr2
 clear hr2 hk2 HF
 cases has:isK (toK ts 1 b) 32 (!isK ts 1 b)
 ·have x0:=bC hbx2 0
  have x1:=bC hbx2 1
  have x2:=bC hbx2 2
  have x3:=bC hbx2 3
  have x4:=bC hbx2 4
  have xf:=bF hbx2
  simp at x0 x1 x2 x3 x4
  have hr2:=HR2.out
  have hto:toK (toK ts 1 b) 32 (!isK ts 1 b)=toK ts 1 b:=by unfold toK;rw [show isK (if isK ts 1 b=true then ts.tail else ts) 32 (!isK ts 1 b)=false from has];rfl
  rw [hto] at hr2
  have HR2':=Z hr2
  have HAS:=Z has
  clear hr2 hto hbx2 HBX1 has
  go_wp2_with fail
  refine bodyPost_ret (v:=.agg #[.string (Pl.refB (Pl.hd ts)),.string (Pl.refB (Pl.hd ts)),.int .i64 0,.pointer none,.bool false]) ?_ rfl ⟨set5_keeps HK2.out _ _ _ _ _,_,_,rfl,?_⟩
  ·simp [results,Tryz.results239,go_sem,x0,x1,x2,x3,x4]
  ·have hr3:=set5_rt hne HR2'.out (.string (Pl.refB (Pl.hd ts))) (.string (Pl.refB (Pl.hd ts))) (.int .i64 0) (.pointer none) (.bool false)
   by_cases h1:isK ts 1 b=true
   ·have hb:b=false:=by cases b <;> simp [isK] at h1 ⊢
    subst hb
    have hk1:(Pl.hd ts).k=1:=by simpa [isK] using h1
    have hto:toK ts 1 false=ts.tail:=by unfold toK;rw [h1];rfl
    have has:=HAS.out
    rw [h1,hto] at has hr3
    have h32:(Pl.hd ts.tail).k≠32:=by simpa [isK] using has
    have e3:Pl.refB (Pl.hd ts)=⟨(Pl.hd ts).s.toArray⟩:=by simp [Pl.refB,Pl.refS,hk1]
    have:bspI false (Pl.iSource ts)=some (⟨(Pl.hd ts).s,(Pl.hd ts).s,0,.nil,false⟩,ts.tail):=by
     show Pl.iSource ts=_
     unfold Pl.iSource;rw [if_pos hk1,if_neg h32]
    rw [this]
    exact ⟨e3,e3,hr3⟩
   ·have h1':isK ts 1 b=false:=by simpa using h1
    rw [h1'] at hr3
    have:bspI b (Pl.iSource ts)=none:=by
     cases b with
     | true=>rfl
     | false =>
      have hk1:(Pl.hd ts).k≠1:=by simpa [isK] using h1'
      show Pl.iSource ts=none
      unfold Pl.iSource;rw [if_neg hk1]
    rw [this]
    exact ⟨_,hr3⟩
 ·have h3:(!isK ts 1 b)=false:=by
   have h:=has
   unfold isK at h;simp at h;simpa [isK] using h.1
  have h4:isK ts 1 b=true:=by simpa using h3
  have h5:b=false:=by cases b <;> simp [isK] at h4 ⊢
  subst h5
  have h6:toK ts 1 false=ts.tail:=by unfold toK;rw [h4];rfl
  have hk1:(Pl.hd ts).k=1:=by simpa [isK] using h4
  have hr2:=HR2.out
  rw [h6,h3] at has hr2
  have h7:toK ts.tail 32 false=ts.tail.tail:=by unfold toK;rw [has];rfl
  have hk32:(Pl.hd ts.tail).k=32:=by simpa [isK] using has
  rw [h7] at hr2
  have e3:Hid (Pl.refB (Pl.hd ts)=⟨(Pl.hd ts).s.toArray⟩):=by simp [Hid,Pl.refB,Pl.refS,hk1]
  have HC2:=Z (nameT rb s ts.tail.tail d false w2 hr2)
  have HBX2:=Z hbx2
  have HSP:Hid (bspI false (Pl.iSource ts)=if (Pl.hd ts.tail.tail).k=1 then some (⟨(Pl.hd ts).s,(Pl.hd ts.tail.tail).s,0,.nil,false⟩,ts.tail.tail.tail) else none):=by
   show Pl.iSource ts=_
   unfold Pl.iSource;rw [if_pos hk1,if_pos hk32]
  clear has h3 h4 h6 h7 hr2 hk1 hk32 hbx2 HR2 HBX1
  go_wp2_with fail
  refine (U HC2).mono ?_
  rintro e w3 ⟨rfl,hr3,hk3⟩
  have hbx3:=hk3.blk (Ne.symm hne) HBX2.out
  have x0:=bC hbx3 0
  have x1:=bC hbx3 1
  have x2:=bC hbx3 2
  have x3:=bC hbx3 3
  have x4:=bC hbx3 4
  have xf:=bF hbx3
  simp at x0 x1 x2 x3 x4
  have HK3:=Z (HK2.out.trans hk3)
  have HR3:=Z hr3
  clear hr3 hk3 hbx3 HC2
  go_wp2_with fail
  refine bodyPost_ret (v:=.agg #[.string (Pl.refB (Pl.hd ts)),.string (Pl.refB (Pl.hd ts.tail.tail)),.int .i64 0,.pointer none,.bool false]) ?_ rfl ⟨set5_keeps HK3.out _ _ _ _ _,_,_,rfl,?_⟩
  ·simp [results,Tryz.results239,go_sem,x0,x1,x2,x3,x4]
  ·have hr4:=set5_rt hne HR3.out (.string (Pl.refB (Pl.hd ts))) (.string (Pl.refB (Pl.hd ts.tail.tail))) (.int .i64 0) (.pointer none) (.bool false)
   by_cases h1:(Pl.hd ts.tail.tail).k=1
   ·have hi:isK ts.tail.tail 1 false=true:=by simp [isK,h1]
    have hto:toK ts.tail.tail 1 false=ts.tail.tail.tail:=by unfold toK;rw [hi];rfl
    rw [hi,hto] at hr4
    rw [HSP.out,if_pos h1]
    exact ⟨e3.out,by simp [Pl.refB,Pl.refS,h1],hr4⟩
   ·have hi:isK ts.tail.tail 1 false=false:=by simp [isK,h1]
    rw [hi] at hr4
    rw [HSP.out,if_neg h1]
    exact ⟨_,hr4⟩
theorem RTree.nodes {w w':World}{rb:Nat}(h:∀ (n:Nat)(C:Array Value),w.heap[n]?=some (.cells C 301)->w'.heap[n]?=some (.cells C 301)):∀ {t:Pl.T}{v:Value},RTree w rb t v->RTree w' rb t v
 | .nil,_,hh=>hh
 | .node _ _ a l r,v,⟨n,vl,vr,hv,hn,hb,hl,hr⟩=>⟨n,vl,vr,hv,hn,h n _ hb,RTree.nodes h hl,RTree.nodes h hr⟩
theorem item_node {w:World}{k:Nat}{C D:Array Value}(h1:w.heap[k]?=some (.cells C 157))(h2:w.heap[k]?=some (.cells D 301)):False:=by
 rw [h1] at h2;injection h2 with h2;injection h2 with _ h2 _;exact absurd h2 (by decide)
theorem RTree.setItem {w:World}{rb xb:Nat}{C:Array Value}(hx:w.heap[xb]?=some (.cells C 157))(o:Nat)(u:Value){t:Pl.T}{v:Value}(h:RTree w rb t v):RTree (w.setCell ⟨xb,o,none⟩ u) rb t v :=
 h.nodes (fun n D hn=>by
  by_cases e:n=xb
  ·subst e;exact (item_node hx hn).elim
  ·exact blk_set_ne hn e _ _)
theorem own_baseR {w:World}{base base':Nat}{e:TypeId}{size n:Nat}{v:Value}{xs:List Value}(hb:base'<=base)(h:w.ownsRow base e size v n xs):w.ownsRow base' e size v n xs:=by
 obtain ⟨h1,h2⟩:=h
 refine ⟨h1,?_⟩
 rcases h2 with h2|⟨g,cap,cur,hv,hg,r⟩
 ·exact .inl h2
 ·exact .inr ⟨g,cap,cur,hv,by omega,r⟩
def itVar (w:World)(xb:Nat)(n o:ByteArray)(t:Int)(a:Option Addr)(m:Bool):Prop:=w.heap[xb]?=some (.cells #[.string n,.string o,.int .i64 t,.pointer a,.bool m] 157)
theorem itVar.c {w:World}{xb:Nat}{n o:ByteArray}{t:Int}{a:Option Addr}{m:Bool}(h:itVar w xb n o t a m) :
 w.cell? ⟨xb,0,none⟩=some (.string n)/\w.cell? ⟨xb,1,none⟩=some (.string o)/\w.cell? ⟨xb,2,none⟩=some (.int .i64 t)/\w.cell? ⟨xb,3,none⟩=some (.pointer a)/\w.cell? ⟨xb,4,none⟩=some (.bool m)/\(∀ i,w.frozen? ⟨xb,i,none⟩=false) :=
 ⟨bC h 0,bC h 1,bC h 2,bC h 3,bC h 4,bF h⟩
def set5 (w:World)(xb:Nat)(n o:ByteArray)(t:Int)(a:Option Addr)(m:Bool):World :=
 ((((w.setCell ⟨xb,0,none⟩ (.string n)).setCell ⟨xb,1,none⟩ (.string o)).setCell ⟨xb,2,none⟩ (.int .i64 t)).setCell ⟨xb,3,none⟩ (.pointer a)).setCell ⟨xb,4,none⟩ (.bool m)
theorem set5_var {w:World}{xb:Nat}{n o n' o':ByteArray}{t t':Int}{a a':Option Addr}{m m':Bool}(h:itVar w xb n o t a m):itVar (set5 w xb n' o' t' a' m') xb n' o' t' a' m':=by
 have:=bS (bS (bS (bS (bS h 0 (.string n')) 1 (.string o')) 2 (.int .i64 t')) 3 (.pointer a')) 4 (.bool m')
 unfold itVar set5
 simpa using this
theorem set5_blk {w:World}{xb k:Nat}{X:Obj}(hk:w.heap[k]?=some X)(hne:k≠xb)(n o:ByteArray)(t:Int)(a:Option Addr)(m:Bool):(set5 w xb n o t a m).heap[k]?=some X :=
 blk_set_ne (blk_set_ne (blk_set_ne (blk_set_ne (blk_set_ne hk hne _ _) hne _ _) hne _ _) hne _ _) hne _ _
theorem set5_keep {rb:Nat}{w w1:World}(h:Keeps rb w w1){xb:Nat}(hx:w.heap.size<=xb)(n o:ByteArray)(t:Int)(a:Option Addr)(m:Bool):Keeps rb w (set5 w1 xb n o t a m) :=
 ((((h.setNew hx _).setNew hx _).setNew hx _).setNew hx _).setNew hx _
theorem set5_RT {w:World}{rb xb:Nat}{s:ByteArray}{ts:List Pl.Tok}{d:Nat}{q:Bool}(hne:rb≠xb)(h:RT w rb s ts d q)(n o:ByteArray)(t:Int)(a:Option Addr)(m:Bool):RT (set5 w xb n o t a m) rb s ts d q:=by
 obtain ⟨p,h1,h2,h3,h4⟩:=h
 exact ⟨p,h1,h2,set5_blk h3 hne _ _ _ _ _,h4⟩
theorem set5_tree {w:World}{rb xb:Nat}{n o n' o':ByteArray}{t t':Int}{a a':Option Addr}{m m':Bool}(h:itVar w xb n o t a m){x:Pl.T}{v:Value}(hx:RTree w rb x v):RTree (set5 w xb n' o' t' a' m') rb x v :=
 hx.nodes (fun k D hn=>by
  by_cases e:k=xb
  ·subst e;exact (item_node h hn).elim
  ·exact set5_blk hn e _ _ _ _ _)
theorem set5_own {w:World}{xb base:Nat}{e:TypeId}{size k:Nat}{v:Value}{xs:List Value}(hb:xb<base)(h:w.ownsRow base e size v k xs)(n o:ByteArray)(t:Int)(a:Option Addr)(m:Bool):(set5 w xb n o t a m).ownsRow base e size v k xs :=
 ownsRow_setCell_below (ownsRow_setCell_below (ownsRow_setCell_below (ownsRow_setCell_below (ownsRow_setCell_below h hb _) hb _) hb _) hb _) hb _
theorem var_tail {w:World}{xb:Nat}{n o:ByteArray}{t:Int}{a a':Option Addr}{m m':Bool}(h:itVar w xb n o t a m):itVar ((w.setCell ⟨xb,3,none⟩ (.pointer a')).setCell ⟨xb,4,none⟩ (.bool m')) xb n o t a' m':=by
 have:=bS (bS h 3 (.pointer a')) 4 (.bool m')
 unfold itVar
 simpa using this
def LoopS (w wr:World)(rb xb:Nat)(s:ByteArray)(d:Nat)(sp:Option (List Pl.It × List Pl.Tok))(g:Nat)(v:Value)(its:List Pl.It)(cs:List Value):Prop :=
 Keeps rb w wr/\(∃ a n c,v=.slice a n c) /\
  ((∃ ts,xb<wr.heap.size/\wr.ownsRow (xb+1) 157 5 v its.length cs/\ItemsAt wr rb its cs/\(∃ n o t a m,itVar wr xb n o t a m)/\ts.length<g/\its.length+ts.length<=1048577/\d=0/\RT wr rb s ts d false/\Pl.joins (ts.length+1) its ts=sp) \/
    (∃ ts' d',d<=d'/\d'<=21/\RT wr rb s ts' d' true/\sp=none))
theorem sources_any (rb:Nat)(s:ByteArray)(ts:List Pl.Tok)(d:Nat)(hd:d<=21)(b:Bool)(hb00:b=false->d=0)(w:World)(hR:RT w rb s ts d b) :
 Calls Tryz.prog 186 #[.pointer (some ⟨rb,0,none⟩)] w (PostI w rb s d (if b=true then none else Pl.pSources ts)):=by
 have hrb:=hR.lt
 have hlen:=hR.len
 obtain ⟨i0,hi,hz0,hz1,hz2⟩:=info_parts Tryz.infoItem
 have HC:=Z (source_any rb s ts d b w hR)
 have HB00:=Z hb00
 generalize hsp:(if b=true then none else Pl.pSources ts)=sp
 have HSP:=Z hsp
 clear hR hb00 hsp
 go_enter Tryz.func186,Tryz.ntmps186
 go_wp2_with fail
 refine (U HC).mono ?_
 rintro e w1 ⟨hk1,N,O,rfl,hp⟩
 have HK1:=Z hk1
 have hsz1:=hk1.size
 have HP:=Z hp
 clear hk1 hp HC
 have hlv:∃ its cs,Hid (LoopS w ((w1.alloc (.cells #[.string N,.string O,.int .i64 0,.pointer none,.bool false] 157)).alloc (.cells #[.string N,.string O,.int .i64 0,.pointer none,.bool false] 157)) rb w1.heap.size s d sp (ts.length+1) (.slice (some ⟨w1.heap.size+1,0,none⟩) 1 1) its cs):=by
  have hown:((w1.alloc (.cells #[.string N,.string O,.int .i64 0,.pointer none,.bool false] 157)).alloc (.cells #[.string N,.string O,.int .i64 0,.pointer none,.bool false] 157)).ownsRow (w1.heap.size+1) 157 5 (.slice (some ⟨w1.heap.size+1,0,none⟩) 1 1) 1 [.string N,.string O,.int .i64 0,.pointer none,.bool false]:=by
   refine ⟨rfl,.inr ⟨w1.heap.size+1,1,_,rfl,Nat.le_refl _,blk_new' _ _ _ (by simp),Nat.le_refl _,by unfold maxLen;omega,rfl,rfl⟩⟩
  have hvar:itVar ((w1.alloc (.cells #[.string N,.string O,.int .i64 0,.pointer none,.bool false] 157)).alloc (.cells #[.string N,.string O,.int .i64 0,.pointer none,.bool false] 157)) w1.heap.size N O 0 none false:=bA (blk_new w1 _) _
  have hk2:=(HK1.out.alloc (.cells #[.string N,.string O,.int .i64 0,.pointer none,.bool false] 157)).alloc (.cells #[.string N,.string O,.int .i64 0,.pointer none,.bool false] 157)
  have hq:=HP.out
  cases hv:bspI b (Pl.iSource ts) with
  | none =>
   rw [hv] at hq
   obtain ⟨t1,hr1⟩:=hq
   have hn:sp=none:=by
    rw [<- HSP.out]
    cases b with
    | true=>rfl
    | false =>
     have:Pl.iSource ts=none:=hv
     show Pl.pSources ts=none
     unfold Pl.pSources;rw [this]
   refine ⟨[],[],hk2,⟨_,_,_,rfl⟩,.inr ⟨t1,d,Nat.le_refl _,hd,(hr1.alloc _).alloc _,hn⟩⟩
  | some y =>
   obtain ⟨it,r⟩:=y
   rw [hv] at hq
   obtain ⟨rfl,rfl,hr1⟩:=hq
   cases b with
   | true=>cases hv
   | false =>
    have hs:Pl.iSource ts=some (it,r):=hv
    have hshr:=Pl.iSource_shr _ _ _ hs
    have hit:it=⟨it.name,it.other,0,.nil,false⟩:=by
     unfold Pl.iSource at hs
     repeat' (split at hs)
     all_goals first
      | cases hs;done
      | (simp at hs;obtain ⟨rfl,_⟩:=hs;rfl)
    refine ⟨[it],_,hk2,⟨_,_,_,rfl⟩,.inl ⟨r,by simp;omega,hown,⟨none,[],by rw [hit];simp [itCells],by rw [hit];rfl,rfl⟩,⟨_,_,_,_,_,hvar⟩,by omega,by simp;omega,HB00.out rfl,(hr1.alloc _).alloc _,?_⟩⟩
    rw [<- HSP.out]
    show _=Pl.pSources ts
    unfold Pl.pSources;rw [hs]
 obtain ⟨its0,cs0,HLV⟩:=hlv
 clear HP
 go_wp2_with fail
 go_loopg [4] (ts.length+1) (fun g x wr=>∃ its cs,Hid (LoopS w wr rb w1.heap.size s d sp g x its cs))
 case atStart=>exact ⟨its0,cs0,HLV⟩
 case round =>
  obtain ⟨its,cs,HL⟩:=hrel
  obtain ⟨hk,⟨la,ln,lc,rfl⟩,hor⟩:=HL.out
  have HK:=Z hk
  have hszr:=hk.size
  clear hk HL HLV
  rcases hor with ⟨tr,hxb,hown,hI,⟨vn,vo,vt,va,vm,hvar⟩,hg,hbd,hd0,hr,hj⟩|⟨tr,d',hd1,hd2,hr,hspn⟩
  ·subst hd0
   have HO:=Z hown
   have HI:=Z hI
   have HVAR:=Z hvar
   clear hown hI hvar
   obtain ⟨r2,r3,rf⟩:=hr.c
   have HF:=Z (fitsT 33 (by decide) (by decide) rb s tr 0 false { data:=#[76,69,70,84] } rfl wr hr)
   have HJ:=Z hj
   clear hr hj
   go_wp2_with fail
   refine (U HF).mono ?_
   rintro e w2 ⟨rfl,hr2,hk2⟩
   have HK2:=Z hk2
   have HF2:=Z (fitsT 34 (by decide) (by decide) rb s (toK tr 33 false) 0 false { data:=#[74,79,73,78] } rfl w2 hr2)
   clear hr2 hk2 HF r2 r3 rf
   go_wp2_with fail
   refine (U HF2).mono ?_
   rintro e w3 ⟨rfl,hr3,hk3⟩
   have HK3:=Z (HK2.out.trans hk3)
   clear hk3 HF2 HK2
   by_cases hjn:∃ lf T2,isK tr 33 false=lf/\isK (toK tr 33 false) 34 false=true/\toK (toK tr 33 false) 34 false=T2/\Pl.joinAt lf tr T2
   ·obtain ⟨lf,T2,hl1,hl2,hl3,hja⟩:=hjn
    have HJA:=Z hja
    have hlt:=Pl.joinAt_lt hja
    rw [hl1,hl2]
    rw [hl3] at hr3
    have HC2:=Z (source_any rb s T2 0 false w3 hr3)
    clear hl1 hl2 hl3 hja hr3
    have hne:rb≠w1.heap.size:=by omega
    cases lf
    ·go_wp2_with fail
     refine (U HC2).mono ?_
     rintro e w4 ⟨hk4,N4,O4,rfl,hp4⟩
     have HK4:=Z (HK3.out.trans hk4)
     have hvar4:itVar w4 w1.heap.size vn vo vt va vm:=HK4.out.blk (Ne.symm hne) HVAR.out
     have hxb4:w1.heap.size<w4.heap.size:=Nat.lt_of_lt_of_le hxb HK4.out.size
     obtain ⟨x0,x1,x2,x3,x4,xf⟩:=hvar4.c
     have HVAR4:=Z hvar4
     have hst:∃ T3 b3,RT w4 rb s T3 0 b3/\(b3=false->∃ it,Pl.iSource T2=some (it,T3)/\N4=⟨it.name.toArray⟩/\O4=⟨it.other.toArray⟩)/\(b3=true->Pl.iSource T2=none):=by
      cases hv:bspI false (Pl.iSource T2) with
      | none =>
       rw [hv] at hp4
       obtain ⟨t4,hr4⟩:=hp4
       exact ⟨t4,true,hr4,(fun h=>by cases h),fun _=>hv⟩
      | some y =>
       obtain ⟨it,r⟩:=y
       rw [hv] at hp4
       exact ⟨r,false,hp4.2.2,fun _=>⟨it,hv,hp4.1,hp4.2.1⟩,fun h=>by cases h⟩
     obtain ⟨T3,b3,hr4,hg4,hb4⟩:=hst
     have HG4:=Z hg4
     have HB4:=Z hb4
     have HN4:=Z (needT 35 (by decide) (by decide) rb s T3 0 b3 { data:=#[79,78] } rfl _ (set5_RT hne hr4 N4 O4 0 none false))
     unfold set5 at HN4
     clear hk4 hp4 HC2 hr4 hg4 hb4 hvar4
     go_wp2_with fail
     refine (U HN4).mono ?_
     rintro e w5 ⟨rfl,hr5,hk5⟩
     have HK5a:=Z hk5
     have hvar5:itVar w5 w1.heap.size N4 O4 0 none false:=hk5.blk (Ne.symm hne) (set5_var HVAR4.out)
     have HVAR5:=Z hvar5
     have HV5:=Z (valAny rb s _ 0 _ w5 (by omega) (fun _=>rfl) hr5)
     clear hk5 hr5 hvar5 HN4 x0 x1 x2 x3 x4 xf
     go_wp2_with fail
     refine (U HV5).mono ?_
     rintro e w6 ⟨hk6,a6,rfl,hp6⟩
     have hvar6:itVar w6 w1.heap.size N4 O4 0 none false:=hk6.blk (Ne.symm hne) HVAR5.out
     obtain ⟨x0,x1,x2,x3,x4,xf⟩:=hvar6.c
     have HVAR6:=Z hvar6
     have HK6:=Z hk6
     have HP6:=Z hp6
     clear hk6 hp6 hvar6 HV5
     have HKb:=Z (((set5_keep (HK.out.trans HK4.out) hsz1 N4 O4 0 none false).trans HK5a.out).trans HK6.out)
     have hown6:=own_keeps HK6.out (show rb<w1.heap.size+1 by omega) (own_keeps HK5a.out (by omega) (set5_own (Nat.lt_succ_self _) (own_keeps HK4.out (by omega) HO.out) N4 O4 0 none false))
     have HI6:=Z ((((HI.out.mono (fun t v=>RTree.keeps HK4.out)).mono (fun t v h=>set5_tree HVAR4.out h (n':=N4) (o':=O4) (t':=0) (a':=none) (m':=false))).mono (fun t v=>RTree.keeps HK5a.out)).mono (fun t v=>RTree.keeps HK6.out))
     have hszb:=HKb.out.size
     have hx6:w1.heap.size<w6.heap.size:=lB HVAR6.out
     have hownX:=ownsRow_setCell_below (ownsRow_setCell_below hown6 (a:=⟨w1.heap.size,3,none⟩) (Nat.lt_succ_self _) (.pointer a6)) (a:=⟨w1.heap.size,4,none⟩) (Nat.lt_succ_self _) (.bool false)
     have hitl:its.length<=1048577:=by omega
     clear hown6
     go_wp2_with (at_builtin;refine wpList_append_own _ rfl (.tmp 39) (.tmp 41) 108 rfl (w1.heap.size+1) 157 i0 _ 5 56 Tryz.underlying108 hi hz0 hz1 hz2 rfl (by decide) _ _ _ rfl (hownX.alloc _) ⟨w6.heap.size,0,none⟩ 1 1 [.string N4,.string O4,.int .i64 0,.pointer a6,.bool false] rfl rfl ?c1 ?c2 ?c3 ?c4 ?c5 ?_)
     case c1 =>
      have:=news_at ((w6.setCell ⟨w1.heap.size,3,none⟩ (.pointer a6)).setCell ⟨w1.heap.size,4,none⟩ (.bool false)) [.string N4,.string O4,.int .i64 0,.pointer a6,.bool false] 157
      simp only [size_set] at this
      exact this
     case c2=>intro u hu;simp at hu;rcases hu with rfl|rfl|rfl|rfl|rfl <;> rfl
     case c3=>unfold maxLen;omega
     case c4=>omega
     case c5=>simp;omega
     intro v' w7 hown7 hg7 hnil
     obtain ⟨ua,un,uc,rfl⟩:=own_slice hown7
     have hKX:Keeps rb w ((w6.setCell ⟨w1.heap.size,3,none⟩ (.pointer a6)).setCell ⟨w1.heap.size,4,none⟩ (.bool false)):=(HKb.out.setNew hsz1 _).setNew hsz1 _
     obtain ⟨hk7,hrt7,hrr7⟩:=push_all (s:=s) (its:=its) (C:=[.string N4,.string O4,.int .i64 0,.pointer a6,.bool false]) hrb hKX (own_baseR (by omega) hownX) hg7
     have hvX:=var_tail HVAR6.out (a':=a6) (m':=false)
     have hv7:itVar w7 w1.heap.size N4 O4 0 a6 false:=by
      have h1:=bA hvX (.cells #[.string N4,.string O4,.int .i64 0,.pointer a6,.bool false] 157)
      unfold itVar
      rw [hg7.block w1.heap.size (lB h1) (fun e=>by have:=(hownX.lt w1.heap.size e.symm).1;omega)]
      exact h1
     have tX:∀ t v,RTree w6 rb t v->RTree w7 rb t v:=fun t v h=>hrr7 _ _ (RTree.setItem (bS HVAR6.out 3 _) 4 _ (RTree.setItem HVAR6.out 3 _ h))
     have rX:∀ ts d b,RT w6 rb s ts d b->RT w7 rb s ts d b:=fun ts d b h=>hrt7 _ _ _ (by
      obtain ⟨p,q1,q2,q3,q4⟩:=h
      exact ⟨p,q1,q2,blk_set_ne (blk_set_ne q3 hne _ _) hne _ _,q4⟩)
     have HK7:=Z hk7
     have HO7:=Z hown7
     have HV7:=Z hv7
     have HTX:=Z tX
     have HRX:=Z rX
     have hx7:w1.heap.size<w7.heap.size:=lB hv7
     clear hk7 hrt7 hrr7 hown7 hg7 hnil hownX hKX hvX hv7 tX rX x0 x1 x2 x3 x4 xf
     go_wp2_with fail
     have hp6:=HP6.out
     cases hv6:bsp (!isK T3 35 b3) (Pl.pVal 20 (toK T3 35 b3)) with
     | none =>
      rw [hv6] at hp6
      obtain ⟨t6,d6,h1,h2,h3⟩:=hp6
      have hj:Pl.iJoin false T2=none:=by
       unfold Pl.iJoin
       cases b3 with
       | true=>rw [HB4.out rfl]
       | false =>
        obtain ⟨it,hs,_,_⟩:=HG4.out rfl
        rw [hs]
        simp only
        by_cases h35:(Pl.hd T3).k=35
        ·have hi:isK T3 35 false=true:=by simp [isK,h35]
         have hto:toK T3 35 false=T3.tail:=by unfold toK;rw [hi];rfl
         rw [hi,hto] at hv6
         have:Pl.pVal 20 T3.tail=none:=hv6
         rw [if_pos h35,this]
        ·rw [if_neg h35]
      go_roundg 0
      case measure=>omega
      case rel =>
       exact ⟨[],[],HK7.out,⟨_,_,_,rfl⟩,.inr ⟨t6,d6,h1,h2,HRX.out _ _ _ h3,by rw [<- HJ.out,Pl.joins_at HJA.out,hj]⟩⟩
     | some y =>
      obtain ⟨x,r⟩:=y
      rw [hv6] at hp6
      have hjs:∃ it:Pl.It,Pl.iJoin false T2=some (⟨it.name,it.other,0,x,false⟩,r)/\N4=⟨it.name.toArray⟩/\O4=⟨it.other.toArray⟩/\True:=by
       cases b3 with
       | true=>cases hv6
       | false =>
        obtain ⟨it,hs,hN,hO⟩:=HG4.out rfl
        by_cases h35:(Pl.hd T3).k=35
        ·have hi:isK T3 35 false=true:=by simp [isK,h35]
         have hto:toK T3 35 false=T3.tail:=by unfold toK;rw [hi];rfl
         rw [hi,hto] at hv6
         have hv6':Pl.pVal 20 T3.tail=some (x,r):=hv6
         refine ⟨it,?_,hN,hO,trivial⟩
         unfold Pl.iJoin
         rw [hs]
         simp only
         rw [if_pos h35,hv6']
        ·have hi:isK T3 35 false=false:=by simp [isK,h35]
         rw [hi] at hv6
         cases hv6
      obtain ⟨it,hj,hN,hO,_⟩:=hjs
      have hshr:=Pl.iJoin_shr _ _ _ _ hj
      go_roundg (r.length+1)
      case measure=>omega
      case rel =>
       refine ⟨its++[⟨it.name,it.other,0,x,false⟩],cs++itCells ⟨it.name,it.other,0,x,false⟩ (.pointer a6),HK7.out,⟨_,_,_,rfl⟩,.inl ⟨r,hx7,?_,?_,⟨_,_,_,_,_,HV7.out⟩,by omega,?_,rfl,HRX.out _ _ _ hp6.2,?_⟩⟩
       ·rw [List.length_append];have:=HO7.out;rw [hN,hO] at this;exact this
       ·exact (HI6.out.mono HTX.out).snoc (HTX.out _ _ hp6.1)
       ·rw [List.length_append,List.length_singleton];omega
       ·rw [<- HJ.out,Pl.joins_at HJA.out,hj]
    ·go_wp2_with fail
     refine (U HC2).mono ?_
     rintro e w4 ⟨hk4,N4,O4,rfl,hp4⟩
     have HK4:=Z (HK3.out.trans hk4)
     have hvar4:itVar w4 w1.heap.size vn vo vt va vm:=HK4.out.blk (Ne.symm hne) HVAR.out
     have hxb4:w1.heap.size<w4.heap.size:=Nat.lt_of_lt_of_le hxb HK4.out.size
     obtain ⟨x0,x1,x2,x3,x4,xf⟩:=hvar4.c
     have HVAR4:=Z hvar4
     have hst:∃ T3 b3,RT w4 rb s T3 0 b3/\(b3=false->∃ it,Pl.iSource T2=some (it,T3)/\N4=⟨it.name.toArray⟩/\O4=⟨it.other.toArray⟩)/\(b3=true->Pl.iSource T2=none):=by
      cases hv:bspI false (Pl.iSource T2) with
      | none =>
       rw [hv] at hp4
       obtain ⟨t4,hr4⟩:=hp4
       exact ⟨t4,true,hr4,(fun h=>by cases h),fun _=>hv⟩
      | some y =>
       obtain ⟨it,r⟩:=y
       rw [hv] at hp4
       exact ⟨r,false,hp4.2.2,fun _=>⟨it,hv,hp4.1,hp4.2.1⟩,fun h=>by cases h⟩
     obtain ⟨T3,b3,hr4,hg4,hb4⟩:=hst
     have HG4:=Z hg4
     have HB4:=Z hb4
     have HN4:=Z (needT 35 (by decide) (by decide) rb s T3 0 b3 { data:=#[79,78] } rfl _ (set5_RT hne hr4 N4 O4 0 none false))
     unfold set5 at HN4
     clear hk4 hp4 HC2 hr4 hg4 hb4 hvar4
     go_wp2_with fail
     refine (U HN4).mono ?_
     rintro e w5 ⟨rfl,hr5,hk5⟩
     have HK5a:=Z hk5
     have hvar5:itVar w5 w1.heap.size N4 O4 0 none false:=hk5.blk (Ne.symm hne) (set5_var HVAR4.out)
     have HVAR5:=Z hvar5
     have HV5:=Z (valAny rb s _ 0 _ w5 (by omega) (fun _=>rfl) hr5)
     clear hk5 hr5 hvar5 HN4 x0 x1 x2 x3 x4 xf
     go_wp2_with fail
     refine (U HV5).mono ?_
     rintro e w6 ⟨hk6,a6,rfl,hp6⟩
     have hvar6:itVar w6 w1.heap.size N4 O4 0 none false:=hk6.blk (Ne.symm hne) HVAR5.out
     obtain ⟨x0,x1,x2,x3,x4,xf⟩:=hvar6.c
     have HVAR6:=Z hvar6
     have HK6:=Z hk6
     have HP6:=Z hp6
     clear hk6 hp6 hvar6 HV5
     have HKb:=Z (((set5_keep (HK.out.trans HK4.out) hsz1 N4 O4 0 none false).trans HK5a.out).trans HK6.out)
     have hown6:=own_keeps HK6.out (show rb<w1.heap.size+1 by omega) (own_keeps HK5a.out (by omega) (set5_own (Nat.lt_succ_self _) (own_keeps HK4.out (by omega) HO.out) N4 O4 0 none false))
     have HI6:=Z ((((HI.out.mono (fun t v=>RTree.keeps HK4.out)).mono (fun t v h=>set5_tree HVAR4.out h (n':=N4) (o':=O4) (t':=0) (a':=none) (m':=false))).mono (fun t v=>RTree.keeps HK5a.out)).mono (fun t v=>RTree.keeps HK6.out))
     have hszb:=HKb.out.size
     have hx6:w1.heap.size<w6.heap.size:=lB HVAR6.out
     have hownX:=ownsRow_setCell_below (ownsRow_setCell_below hown6 (a:=⟨w1.heap.size,3,none⟩) (Nat.lt_succ_self _) (.pointer a6)) (a:=⟨w1.heap.size,4,none⟩) (Nat.lt_succ_self _) (.bool true)
     have hitl:its.length<=1048577:=by omega
     clear hown6
     go_wp2_with (at_builtin;refine wpList_append_own _ rfl (.tmp 39) (.tmp 41) 108 rfl (w1.heap.size+1) 157 i0 _ 5 56 Tryz.underlying108 hi hz0 hz1 hz2 rfl (by decide) _ _ _ rfl (hownX.alloc _) ⟨w6.heap.size,0,none⟩ 1 1 [.string N4,.string O4,.int .i64 0,.pointer a6,.bool true] rfl rfl ?c1 ?c2 ?c3 ?c4 ?c5 ?_)
     case c1 =>
      have:=news_at ((w6.setCell ⟨w1.heap.size,3,none⟩ (.pointer a6)).setCell ⟨w1.heap.size,4,none⟩ (.bool true)) [.string N4,.string O4,.int .i64 0,.pointer a6,.bool true] 157
      simp only [size_set] at this
      exact this
     case c2=>intro u hu;simp at hu;rcases hu with rfl|rfl|rfl|rfl|rfl <;> rfl
     case c3=>unfold maxLen;omega
     case c4=>omega
     case c5=>simp;omega
     intro v' w7 hown7 hg7 hnil
     obtain ⟨ua,un,uc,rfl⟩:=own_slice hown7
     have hKX:Keeps rb w ((w6.setCell ⟨w1.heap.size,3,none⟩ (.pointer a6)).setCell ⟨w1.heap.size,4,none⟩ (.bool true)):=(HKb.out.setNew hsz1 _).setNew hsz1 _
     obtain ⟨hk7,hrt7,hrr7⟩:=push_all (s:=s) (its:=its) (C:=[.string N4,.string O4,.int .i64 0,.pointer a6,.bool true]) hrb hKX (own_baseR (by omega) hownX) hg7
     have hvX:=var_tail HVAR6.out (a':=a6) (m':=true)
     have hv7:itVar w7 w1.heap.size N4 O4 0 a6 true:=by
      have h1:=bA hvX (.cells #[.string N4,.string O4,.int .i64 0,.pointer a6,.bool true] 157)
      unfold itVar
      rw [hg7.block w1.heap.size (lB h1) (fun e=>by have:=(hownX.lt w1.heap.size e.symm).1;omega)]
      exact h1
     have tX:∀ t v,RTree w6 rb t v->RTree w7 rb t v:=fun t v h=>hrr7 _ _ (RTree.setItem (bS HVAR6.out 3 _) 4 _ (RTree.setItem HVAR6.out 3 _ h))
     have rX:∀ ts d b,RT w6 rb s ts d b->RT w7 rb s ts d b:=fun ts d b h=>hrt7 _ _ _ (by
      obtain ⟨p,q1,q2,q3,q4⟩:=h
      exact ⟨p,q1,q2,blk_set_ne (blk_set_ne q3 hne _ _) hne _ _,q4⟩)
     have HK7:=Z hk7
     have HO7:=Z hown7
     have HV7:=Z hv7
     have HTX:=Z tX
     have HRX:=Z rX
     have hx7:w1.heap.size<w7.heap.size:=lB hv7
     clear hk7 hrt7 hrr7 hown7 hg7 hnil hownX hKX hvX hv7 tX rX x0 x1 x2 x3 x4 xf
     go_wp2_with fail
     have hp6:=HP6.out
     cases hv6:bsp (!isK T3 35 b3) (Pl.pVal 20 (toK T3 35 b3)) with
     | none =>
      rw [hv6] at hp6
      obtain ⟨t6,d6,h1,h2,h3⟩:=hp6
      have hj:Pl.iJoin true T2=none:=by
       unfold Pl.iJoin
       cases b3 with
       | true=>rw [HB4.out rfl]
       | false =>
        obtain ⟨it,hs,_,_⟩:=HG4.out rfl
        rw [hs]
        simp only
        by_cases h35:(Pl.hd T3).k=35
        ·have hi:isK T3 35 false=true:=by simp [isK,h35]
         have hto:toK T3 35 false=T3.tail:=by unfold toK;rw [hi];rfl
         rw [hi,hto] at hv6
         have:Pl.pVal 20 T3.tail=none:=hv6
         rw [if_pos h35,this]
        ·rw [if_neg h35]
      go_roundg 0
      case measure=>omega
      case rel =>
       exact ⟨[],[],HK7.out,⟨_,_,_,rfl⟩,.inr ⟨t6,d6,h1,h2,HRX.out _ _ _ h3,by rw [<- HJ.out,Pl.joins_at HJA.out,hj]⟩⟩
     | some y =>
      obtain ⟨x,r⟩:=y
      rw [hv6] at hp6
      have hjs:∃ it:Pl.It,Pl.iJoin true T2=some (⟨it.name,it.other,0,x,true⟩,r)/\N4=⟨it.name.toArray⟩/\O4=⟨it.other.toArray⟩/\True:=by
       cases b3 with
       | true=>cases hv6
       | false =>
        obtain ⟨it,hs,hN,hO⟩:=HG4.out rfl
        by_cases h35:(Pl.hd T3).k=35
        ·have hi:isK T3 35 false=true:=by simp [isK,h35]
         have hto:toK T3 35 false=T3.tail:=by unfold toK;rw [hi];rfl
         rw [hi,hto] at hv6
         have hv6':Pl.pVal 20 T3.tail=some (x,r):=hv6
         refine ⟨it,?_,hN,hO,trivial⟩
         unfold Pl.iJoin
         rw [hs]
         simp only
         rw [if_pos h35,hv6']
        ·have hi:isK T3 35 false=false:=by simp [isK,h35]
         rw [hi] at hv6
         cases hv6
      obtain ⟨it,hj,hN,hO,_⟩:=hjs
      have hshr:=Pl.iJoin_shr _ _ _ _ hj
      go_roundg (r.length+1)
      case measure=>omega
      case rel =>
       refine ⟨its++[⟨it.name,it.other,0,x,true⟩],cs++itCells ⟨it.name,it.other,0,x,true⟩ (.pointer a6),HK7.out,⟨_,_,_,rfl⟩,.inl ⟨r,hx7,?_,?_,⟨_,_,_,_,_,HV7.out⟩,by omega,?_,rfl,HRX.out _ _ _ hp6.2,?_⟩⟩
       ·rw [List.length_append];have:=HO7.out;rw [hN,hO] at this;exact this
       ·exact (HI6.out.mono HTX.out).snoc (HTX.out _ _ hp6.1)
       ·rw [List.length_append,List.length_singleton];omega
       ·rw [<- HJ.out,Pl.joins_at HJA.out,hj]
   ·by_cases h33:(Pl.hd tr).k=33
    ·have hi:isK tr 33 false=true:=by simp [isK,h33]
     have hto:toK tr 33 false=tr.tail:=by unfold toK;rw [hi];rfl
     have h34:(Pl.hd tr.tail).k≠34:=fun h=>hjn ⟨true,tr.tail.tail,hi,by rw [hto];simp [isK,h],by rw [hto];unfold toK;rw [show isK tr.tail 34 false=true by simp [isK,h]];rfl,by unfold Pl.joinAt;rw [if_pos rfl];exact ⟨h33,h,rfl⟩⟩
     have hi2:isK (toK tr 33 false) 34 false=false:=by rw [hto];simp [isK,h34]
     rw [hi,hi2]
     obtain ⟨r2,r3,rf⟩:=hr3.c
     have HR3:=Z hr3.wrong
     have HN:Hid (sp=none):=by rw [<- HJ.out];exact Pl.joins_wrong h33 h34
     clear hr3 hi hto h34 hi2 h33 hjn
     go_wp2_with fail
     go_ret
     exact ⟨(HK.out.trans HK3.out).set _ _,la,ln,lc,rfl,by rw [HN.out];exact ⟨_,0,Nat.le_refl _,by omega,HR3.out⟩⟩
    ·have hi:isK tr 33 false=false:=by simp [isK,h33]
     have hto:toK tr 33 false=tr:=by unfold toK;rw [hi];rfl
     have h34:(Pl.hd tr).k≠34:=fun h=>hjn ⟨false,tr.tail,hi,by rw [hto];simp [isK,h],by rw [hto];unfold toK;rw [show isK tr 34 false=true by simp [isK,h]];rfl,by unfold Pl.joinAt;rw [if_neg (by simp)];exact ⟨h,rfl⟩⟩
     have hi2:isK (toK tr 33 false) 34 false=false:=by rw [hto];simp [isK,h34]
     have hto2:toK (toK tr 33 false) 34 false=tr:=by
      have hi3:isK tr 34 false=false:=by rw [hto] at hi2;exact hi2
      rw [hto];unfold toK;rw [hi3];rfl
     rw [hi,hi2]
     rw [hto2] at hr3
     have HR3:=Z hr3
     have HN:Hid (sp=some (its,tr)):=by rw [<- HJ.out];exact Pl.joins_end h33 h34
     have HO3:=Z (own_baseR (show w.heap.size<=w1.heap.size+1 by omega) (own_keeps HK3.out (by omega) HO.out))
     have HI3:=Z (HI.out.mono (fun t v=>RTree.keeps HK3.out))
     clear hr3 hi hto h34 hi2 h33 hjn hto2
     go_wp2_with fail
     go_ret
     exact ⟨HK.out.trans HK3.out,la,ln,lc,rfl,by rw [HN.out];exact ⟨⟨cs,HO3.out,HI3.out⟩,HR3.out⟩⟩
  ·obtain ⟨r2,r3,rf⟩:=hr.c
   have HR2:=Z hr
   have HSN:=Z hspn
   clear hr hspn
   go_wp2_with fail
   go_ret
   exact ⟨HK.out,la,ln,lc,rfl,by rw [HSN.out];exact ⟨tr,d',hd1,hd2,HR2.out⟩⟩
end Go.Proofs.YtojdpjpldokjmaaGreatDoor
