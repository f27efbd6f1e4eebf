/- The law's plays, at the first stage; Filled. -/
import Derived.Test.YtojdpjpldokjmaaGreatDoorF29
import Derived.Test.YtojdpjpldokjmaaGreatDoorF18
import Derived.Test.YtojdpjpldokjmaaGreatDoorF30
set_option maxHeartbeats 60000000
set_option maxRecDepth 100000
namespace Go.Proofs.YtojdpjpldokjmaaGreatDoor
open Go.RowKit Go.Deep
set_option linter.unusedSimpArgs false
set_option linter.unusedVariables false
structure Opx where
 kind:Int
 db:Int
 n:Int
 s:List UInt8
def OpsAt (w:World)(ops:List Opx)(v:Value):Prop:=∃ a c,v=.slice a ops.length c/\(ops≠[]->∃ p:Addr,a=some p/\p.block<w.heap.size/\∀ (i:Nat) x,ops[i]?=some x->w.cell? (p.add (i*4))=some (.int .i64 x.kind)/\w.cell? (p.add (i*4+1))=some (.int .i64 x.db)/\w.cell? (p.add (i*4+2))=some (.int .i64 x.n)/\w.cell? (p.add (i*4+3))=some (.string ⟨x.s.toArray⟩))
theorem OpsAt.below {w w':World}{ops:List Opx}{v:Value}(h:OpsAt w ops v)(hb:Below w.heap.size w w'):OpsAt w' ops v:=by
 obtain ⟨a,c,h1,h2⟩:=h
 refine ⟨a,c,h1,fun hn=>?_⟩
 obtain ⟨p,h3,h4,h5⟩:=h2 hn
 have hk:∀ m,w'.cell? (p.add m)=w.cell? (p.add m):=fun m=>hb.cell (by rw [add_block];exact h4)
 exact ⟨p,h3,Nat.lt_of_lt_of_le h4 hb.size,fun i x hx=>by rw [hk,hk,hk,hk];exact h5 i x hx⟩
theorem add_two (ad:Addr)(m j:Nat)(hj:0<j):(⟨(ad.add m).block,(ad.add m).off+j,none⟩:Addr)=ad.add (m+j):=by
 unfold Addr.add
 rw [if_neg (show ¬ m+j=0 by omega)]
 split
 ·rename_i h
  subst h
  simp
 ·simp;omega
theorem Globs.below {w w':World}(h:Globs w)(hb:Below w.heap.size w w'):Globs w' :=
 ⟨h.spell.below hb,h.err.below hb,h.rules.keep (hb.block _ h.rlt),Nat.lt_of_lt_of_le h.rlt hb.size,h.pow.keep (hb.block _ h.pow.lt)⟩
theorem LawW.start (w:World)(hg:Globs w)(hs:SaveG w):∃ col,LawW w.heap.size w (w.alloc (worldO 0 (.slice none 0 0) (.slice none 0 0) (.slice none 0 0))) col (fun _=>False) w.heap.size 0 (.slice none 0 0) (.slice none 0 0) (.slice none 0 0) 0 [] []:=by
 have hGl:∀ k,Gl k->k<w.heap.size:=fun k hk=>by
  rcases hk with rfl|rfl|rfl|rfl|rfl|rfl
  ·exact hg.rlt
  ·exact hg.spell.lt
  ·exact hg.err.lt
  ·exact hg.pow.lt
  ·exact hs.lts _ (.inr (.inl rfl))
  ·exact hs.lts _ (.inr (.inr rfl))
 have hdec:∀ k,Gl k\/¬ Gl k:=fun k=>Classical.em _
 have iG:∀ k,Decidable (Gl k):=fun k=>Classical.propDecidable _
 refine ⟨fun k=>@ite _ (Gl k) (iG k) (-1) (if k<w.heap.size then -5 else -2),(Below.refl _ _).alloc (Nat.le_refl _) _,by simp,fun k hk=>?_,⟨?_,?_,?_,fun k hk=>(by cases hk),fun k hk=>hk.elim,fun j g hg=>(by simp at hg)⟩,rfl,own_nil,fun i p hp=>(by simp at hp),fun k hk=>?_,fun k hk=>?_,fun k hk=>(by cases hk),fun i p hp=>(by simp at hp),fun i p hp=>(by simp at hp),fun i p hp=>(by simp at hp)⟩
 ·rcases hdec k with h|h
  ·exact .inr (if_pos h)
  ·exact .inl (by show @ite _ (Gl k) _ _ _=_;rw [if_neg h,if_pos hk])
 ·exact blk_new _ _
 ·exact own_nil
 ·exact own_nil
 ·exact ⟨if_pos hk,by have:=hGl k hk;simp;omega⟩
 ·have hkk:k=w.heap.size:=by
   rcases hk with h|h|h|h
   ·exact h
   ·exact h.elim
   ·cases h
   ·cases h
  subst hkk
  show @ite _ (Gl _) _ _ _=_
  rw [if_neg (fun h=>by have:=hGl _ h;omega),if_neg (by omega)]
theorem LawW.first {B0:Nat}{w0 w:World}{col:Nat->Int}{F:Nat->Prop}{wb came:Nat}{gp pc:Nat}{ov o3:Value}{n:Nat}{gs:List Value}{ps:List Pr}(h:LawW B0 w0 w col F wb came (.slice (some ⟨gp,0,none⟩) 2 pc) ov o3 n gs ps){p:Pr}(hp:ps[0]?=some p):wb<w.heap.size/\w.cell? ⟨wb,4,none⟩=some (.slice (some ⟨gp,0,none⟩) 2 pc)/\gp<w.heap.size/\w.cell? ⟨gp,0,none⟩=some (.pointer (some ⟨p.pb,0,none⟩))/\p.pb<w.heap.size/\w.cell? ⟨p.pb,0,none⟩=some (.pointer (some ⟨p.b,0,none⟩))/\w.cell? ⟨p.pb,1,none⟩=some (.pointer (some ⟨p.rb,0,none⟩)):=by
 obtain ⟨g,_,e,_,hg,c⟩:=own_cell h.row (j:=0) (u:=prPtr p) (by rw [List.getElem?_map,hp];rfl)
 injection e with e1 e2 e3
 cases e1
 have x4:=bC h.law.box 4
 have c0:=bC (h.each 0 p hp).box 0
 have c1:=bC (h.each 0 p hp).box 1
 simp at x4 c0 c1
 exact ⟨lB h.law.box,x4,hg,c,lB (h.each 0 p hp).box,c0,c1⟩
theorem playsS (L:LexLib)(X:MachLib)(Y:SaveLib)(ops:List Opx)(v:Value)(w:World)(hv:OpsAt w ops v)(hops:ops.length<=1048576)(hop:∀ x ∈ ops,Pl.in64 x.db/\x.s.length<=1048576)(hg:Globs w)(hs:SaveG w) :
 Calls Tryz.prog 13 #[v,.int .i64 1] w fun e w'=>e=.returned (.bool true)/\Below w.heap.size w w':=by
 obtain ⟨col0,hW0⟩:=LawW.start w hg hs
 have HV:=Z hv
 have HLex:=Z L
 have HMach:=Z X
 have HSav:=Z Y
 have HOp:=Z hop
 have hb0:Below w.heap.size w (w.alloc (worldO 0 (.slice none 0 0) (.slice none 0 0) (.slice none 0 0))):=(Below.refl _ _).alloc (Nat.le_refl _) _
 have HO1:=Z (openX hW0 (hg.below hb0) (hs.below hb0) (by simp))
 obtain ⟨va,vc,rfl,_⟩:=hv
 have HG:=Z hg
 have HS:=Z hs
 have HB0:=Z hb0
 clear hop hg hs hW0 hb0 L X Y
 go_enter Tryz.func13,Tryz.ntmps13
 go_wp2_with fail
 refine (U HO1).mono ?_
 rintro e w1 ⟨rfl,col1,psv1,s1,hW1⟩
 have HO2:=Z (openX hW1 (HG.out.below hW1.bel) (HS.out.below hW1.bel) (by simp))
 clear hW1 HO1
 go_wp2_with fail
 refine (U HO2).mono ?_
 rintro e w2 ⟨rfl,col,psv,s2,hW⟩
 clear HO2
 obtain ⟨p,q,ps,hps,hpD,hpE,hqD,hl2,hp0,hq1⟩:∃ (p q:Pr) (ps:List Pr),[]++[newPr s1]++[newPr s2]=ps/\p.D=[]/\p.E=[]/\q.D=q.E/\ps.length=2/\ps[0]?=some p/\ps[1]?=some q:=⟨newPr s1,newPr s2,_,rfl,rfl,rfl,rfl,rfl,rfl,rfl⟩
 rw [hps] at hW
 have HQ:=Z hq1
 have HQd:=Z hqD
 have HPd:=Z hpD
 have HPe:=Z hpE
 clear hps hq1 hqD hpD hpE
 obtain ⟨gp,pc,e,-⟩:=own_cell hW.row (j:=0) (u:=prPtr p) (by rw [List.getElem?_map,hp0];rfl)
 rw [hl2] at e
 subst e
 obtain ⟨t1,t2,t3,t4,t5,t6,t7⟩:=hW.first hp0
 have HE1:=Z (execM1 HLex.out HMach.out Pl.fC w2 p.M p.b p.lay p.D (hW.each 0 p hp0).live (by decide) Pl.fC_kind)
 rw [HPd.out,Pl.fC_exec] at HE1
 rw [show (⟨Pl.fC.toArray⟩:ByteArray)=⟨#[67,82,69,65,84,69,32,84,65,66,76,69,32,116,32,40,97,32,73,78,84,44,32,98,32,84,69,88,84,41]⟩ from rfl] at HE1
 have HW:=Z hW
 have HP0:=Z hp0
 have HL2:=Z hl2
 clear hW hp0 hl2 t7
 go_wp2_with fail
 refine (U HE1).mono ?_
 rintro e w3 ⟨⟨rv,M1,lay1,rfl,hs1,ho1⟩,xc,xe,hnil⟩
 have hrv:rv=.slice none 0 0:=by
  injection hnil with hnil
  injection hnil with hnil
  simp at hnil
  exact hnil.1.1
 subst hrv
 obtain ⟨col3,hW3⟩:=HW.out.stepM HP0.out ⟨hs1.keep,hs1.new⟩ (((HW.out.each 0 p HP0.out).live).step hs1)
 have hp3:(ps.set 0 ⟨p.pb,p.b,p.rb,M1,p.R,lay1,p.rlay,Pl.fD0,p.E⟩)[0]?=some ⟨p.pb,p.b,p.rb,M1,p.R,lay1,p.rlay,Pl.fD0,p.E⟩:=by
  rw [List.getElem?_set,if_pos rfl,if_pos (getElem?_lt HP0.out)]
 have hq3:(ps.set 0 ⟨p.pb,p.b,p.rb,M1,p.R,lay1,p.rlay,Pl.fD0,p.E⟩)[1]?=some q:=by
  rw [List.getElem?_set,if_neg (by omega)];exact HQ.out
 have hl3:(ps.set 0 ⟨p.pb,p.b,p.rb,M1,p.R,lay1,p.rlay,Pl.fD0,p.E⟩).length=2:=by rw [List.length_set];exact HL2.out
 generalize ps.set 0 ⟨p.pb,p.b,p.rb,M1,p.R,lay1,p.rlay,Pl.fD0,p.E⟩=ps3 at *
 have HM1:Hid (∀ k,M1 k->k<w3.heap.size):=hs1.db.lt
 clear hs1 ho1 hnil HE1 t1 t2 t3 t4 t5 t6 HW HP0 HQ HL2
 have hb4:Below w3.heap.size w3 (w3.alloc (.cells #[.slice none 0 0,.int .i64 (Pl.no 0).count] 36)):=(Below.refl _ _).alloc (Nat.le_refl _) _
 have hA:=blk_new w3 (.cells #[.slice none 0 0,.int .i64 (Pl.no 0).count] 36)
 go_upto_region 7 with fail
 generalize w3.alloc (.cells #[.slice none 0 0,.int .i64 (Pl.no 0).count] 36)=w4 at *
 have hW4:=hW3.below hb4
 generalize w3.heap.size=A at *
 have hAz:=lB hA
 have HA:=Z hA
 obtain ⟨t1,t2,t3,t4,t5,t6,t7⟩:=hW4.first hp3
 have HE2:=Z (execM1 HLex.out HMach.out Pl.fI w4 M1 p.b lay1 Pl.fD0 (hW4.each 0 _ hp3).live (by decide) Pl.fI_kind)
 rw [Pl.fI_exec] at HE2
 rw [show (⟨Pl.fI.toArray⟩:ByteArray)=⟨#[73,78,83,69,82,84,32,73,78,84,79,32,116,32,86,65,76,85,69,83,32,40,49,44,32,39,120,39,41]⟩ from rfl] at HE2
 have HW4:=Z hW4
 have HP3:=Z hp3
 have HQ3:=Z hq3
 have HL3:=Z hl3
 clear hb4 hA hW4 hW3 hp3 hq3 hl3 t7
 simp only at t4 t5 t6
 go_wp2_with fail
 refine (U HE2).mono ?_
 rintro e w5 ⟨⟨rv,M2,lay2,rfl,hs2,ho2⟩,xc,xe,hnil⟩
 have hrv:rv=.slice none 0 0:=by
  injection hnil with hnil
  injection hnil with hnil
  simp at hnil
  exact hnil.1.1
 subst hrv
 obtain ⟨col5,hW5⟩:=HW4.out.stepM HP3.out ⟨hs2.keep,hs2.new⟩ (((HW4.out.each 0 _ HP3.out).live).step hs2)
 have hp5:(ps3.set 0 ⟨p.pb,p.b,p.rb,M2,p.R,lay2,p.rlay,Pl.fD1,p.E⟩)[0]?=some ⟨p.pb,p.b,p.rb,M2,p.R,lay2,p.rlay,Pl.fD1,p.E⟩:=by
  rw [List.getElem?_set,if_pos rfl,if_pos (getElem?_lt HP3.out)]
 have hq5:(ps3.set 0 ⟨p.pb,p.b,p.rb,M2,p.R,lay2,p.rlay,Pl.fD1,p.E⟩)[1]?=some q:=by
  rw [List.getElem?_set,if_neg (by omega)];exact HQ3.out
 have hl5:(ps3.set 0 ⟨p.pb,p.b,p.rb,M2,p.R,lay2,p.rlay,Pl.fD1,p.E⟩).length=2:=by rw [List.length_set];exact HL3.out
 have hA5:w5.heap[A]?=_:=(hs2.keep.block A ⟨hAz,fun hm=>by have:=HM1.out A hm;omega⟩).trans HA.out
 generalize ps3.set 0 ⟨p.pb,p.b,p.rb,M2,p.R,lay2,p.rlay,Pl.fD1,p.E⟩=ps5 at *
 have hb6:Below w5.heap.size w5 (w5.alloc (.cells #[.slice none 0 0,.int .i64 1] 36)):=(Below.refl _ _).alloc (Nat.le_refl _) _
 have hB:=blk_new w5 (.cells #[.slice none 0 0,.int .i64 1] 36)
 have hA6:=bA hA5 (.cells #[.slice none 0 0,.int .i64 1] 36)
 clear hs2 ho2 hnil HE2 t1 t2 t3 t4 t5 t6 HW4 HP3 HQ3 HL3 HM1 HA hAz hA5
 go_upto_region 8 with fail
 generalize w5.alloc (.cells #[.slice none 0 0,.int .i64 1] 36)=w6 at *
 have hW6:=hW5.below hb6
 generalize w5.heap.size=B at *
 have a1:=bC hA6 1
 have e1:=bC hB 1
 have hAz:=lB hA6
 have hBz:=lB hB
 simp [Pl.no] at a1 e1
 obtain ⟨t1,t2,t3,t4,t5,t6,t7⟩:=hW6.first hp5
 have HE3:=Z (execR Pl.fC (by decide) Pl.fC_kind w6 p.R p.rb p.rlay p.E (hW6.each 0 _ hp5).ref)
 rw [HPe.out,Pl.fC_exec] at HE3
 rw [show (⟨Pl.fC.toArray⟩:ByteArray)=⟨#[67,82,69,65,84,69,32,84,65,66,76,69,32,116,32,40,97,32,73,78,84,44,32,98,32,84,69,88,84,41]⟩ from rfl] at HE3
 have HW6:=Z hW6
 have HP5:=Z hp5
 have HQ5:=Z hq5
 have HL5:=Z hl5
 clear hb6 hB hA6 hW6 hW5 hp5 hq5 hl5 t6
 simp only at t4 t5 t7
 go_wp2_with fail
 refine (U HE3).mono ?_
 rintro e w7 ⟨rfl,R7,lay7,hs7⟩
 obtain ⟨col7,hW7⟩:=HW6.out.stepR HP5.out ⟨hs7.keep,hs7.new⟩ hs7.db
 have hp7:(ps5.set 0 ⟨p.pb,p.b,p.rb,M2,R7,lay2,lay7,Pl.fD1,Pl.fD0⟩)[0]?=some ⟨p.pb,p.b,p.rb,M2,R7,lay2,lay7,Pl.fD1,Pl.fD0⟩:=by
  rw [List.getElem?_set,if_pos rfl,if_pos (getElem?_lt HP5.out)]
 have hq7:(ps5.set 0 ⟨p.pb,p.b,p.rb,M2,R7,lay2,lay7,Pl.fD1,Pl.fD0⟩)[1]?=some q:=by
  rw [List.getElem?_set,if_neg (by omega)];exact HQ5.out
 have hl7:(ps5.set 0 ⟨p.pb,p.b,p.rb,M2,R7,lay2,lay7,Pl.fD1,Pl.fD0⟩).length=2:=by rw [List.length_set];exact HL5.out
 generalize ps5.set 0 ⟨p.pb,p.b,p.rb,M2,R7,lay2,lay7,Pl.fD1,Pl.fD0⟩=ps7 at *
 clear hs7 HE3 t1 t2 t3 t4 t5 t7 HW6 HP5 HQ5 HL5 a1 e1 hAz hBz
 obtain ⟨t1,t2,t3,t4,t5,t6,t7⟩:=hW7.first hp7
 have HE4:=Z (execR Pl.fI (by decide) Pl.fI_kind w7 R7 p.rb lay7 Pl.fD0 (hW7.each 0 _ hp7).ref)
 rw [Pl.fI_exec] at HE4
 rw [show (⟨Pl.fI.toArray⟩:ByteArray)=⟨#[73,78,83,69,82,84,32,73,78,84,79,32,116,32,86,65,76,85,69,83,32,40,49,44,32,39,120,39,41]⟩ from rfl] at HE4
 have HW7:=Z hW7
 have HP7:=Z hp7
 have HQ7:=Z hq7
 have HL7:=Z hl7
 clear hW7 hp7 hq7 hl7 t6
 simp only at t4 t5 t7
 go_wp2_with fail
 refine (U HE4).mono ?_
 rintro e w8 ⟨rfl,R8,lay8,hs8⟩
 obtain ⟨col8,hW8⟩:=HW7.out.stepR HP7.out ⟨hs8.keep,hs8.new⟩ hs8.db
 have HOk:Hid (LawOk w.heap.size w w8 w.heap.size 0 0 2):=by
  refine ⟨col8,_,_,_,_,_,_,hW8,by rw [List.length_set];exact HL7.out,fun j x hx=>?_⟩
  rcases set_at HP7.out hx with ⟨rfl,rfl⟩|⟨hj,hx'⟩
  ·rfl
  ·have hj2:j<2:=by have:=getElem?_lt hx';rw [HL7.out] at this;exact this
   have hj1:j=1:=by omega
   subst hj1
   rw [HQ7.out] at hx'
   cases hx'
   exact HQd.out
 clear hs8 hW8 HE4 t1 t2 t3 t4 t5 t7 HW7 HP7 HQ7 HL7 HPd HPe HQd
 go_wp2_with fail
 go_loopw [12] (fun s12 wr=>∃ k:Nat,k<=ops.length/\s12=.int .i64 (k:Nat)/\Hid (∃ came n len,came<=k/\n<=2*k/\2<=len/\len<=k+2/\LawOk w.heap.size w wr w.heap.size came n len)) (fun s12 _=>ops.length - (intOf s12).toNat)
 case atStart=>exact ⟨0,Nat.zero_le _,rfl,0,0,2,by omega,by omega,by omega,by omega,HOk.out⟩
 case round =>
  obtain ⟨k,hk,rfl,HI⟩:=hrel
  obtain ⟨came,n,len,h1,h2,h3,h4,col,F,psv,ov,o3,gs,ps,hW,hlen,heq⟩:=HI.out
  by_cases hlt:k<ops.length
  ·have hxk:ops[k]?=some ops[k]:=List.getElem?_eq_getElem hlt
   have hxo:=HOp.out _ (List.getElem_mem hlt)
   generalize ops[k]=x at *
   obtain ⟨_,_,e,hc⟩:=HV.out.below hW.bel
   cases e
   obtain ⟨ad,rfl,had,hcells⟩:=hc (by rintro rfl;simp at hlt)
   obtain ⟨d0,d1,d2,d3⟩:=hcells k x hxk
   rw [<- add_two ad (k*4) 1 (by omega)] at d1
   rw [<- add_two ad (k*4) 2 (by omega)] at d2
   rw [<- add_two ad (k*4) 3 (by omega)] at d3
   have HSt:=Z (stepS HLex.out HMach.out HSav.out x.kind x.db x.n x.s hxo.1 hxo.2 hW heq (by omega) (by omega) (by omega) (by omega))
   have hki:((k:Nat):Int)<((ops.length:Nat):Int):=by omega
   rw [hlen] at HSt
   have HH:=Z (And.intro h1 (And.intro h2 (And.intro h3 h4)))
   clear hxk hxo hc hcells hW heq hlen HI h1 h2 h3 h4
   go_wp2_with fail
   refine (U HSt).mono ?_
   rintro e w9 ⟨rfl,came',n',len',g1,g2,g3,g4,col',F',psv',ov',o3',gs',ps',hW',hlen',heq'⟩
   have HLk:=Z (looksN w9 F' w.heap.size came' psv' ov' o3' n' gs' hW'.law (by have:=HH.out;omega) hW'.len)
   have HW':=Z hW'
   have HEq':=Z heq'
   have HGg:=Z (And.intro g1 (And.intro g2 (And.intro g3 (And.intro g4 hlen'))))
   clear hW' heq' hlen' g1 g2 g3 g4 HSt d0 d1 d2 d3
   go_wp2_with fail
   refine (U HLk).mono ?_
   rintro e w10 ⟨rfl,hb10⟩
   have HOk':Hid (∃ came n len,came<=k+1/\n<=2*(k+1)/\2<=len/\len<=k+1+2/\LawOk w.heap.size w w10 w.heap.size came n len):=⟨came',n',len',by have:=HH.out;have:=HGg.out;omega,by have:=HH.out;have:=HGg.out;omega,by have:=HH.out;have:=HGg.out;omega,by have:=HH.out;have:=HGg.out;omega,col',F',psv',ov',o3',gs',ps',HW'.out.below hb10,HGg.out.2.2.2.2,HEq'.out⟩
   clear hb10 HLk HW' HEq' HGg HH
   go_wp2_with fail
   go_roundw
   case rel=>exact ⟨k+1,by omega,by go_num,HOk'.out⟩
   case measure=>simp [intOf];omega
  ·obtain rfl:k=ops.length:=by omega
   have HBf:=Z hW.bel
   clear hW heq HI
   go_wp2_with fail
   go_ret
   exact ⟨rfl,HBf.out⟩
theorem filledK (L:LexLib)(X:MachLib)(Y:SaveLib)(ops:List Opx)(v:Value)(w:World)(hv:OpsAt w ops v)(hops:ops.length<=1048576)(hop:∀ x ∈ ops,Pl.in64 x.db/\x.s.length<=1048576)(hg:Globs w)(hs:SaveG w) :
 Calls Tryz.prog 3 #[v] w fun e w'=>e=.returned (.bool true)/\Below w.heap.size w w':=by
 have HC:=Z (playsS L X Y ops v w hv hops hop hg hs)
 obtain ⟨va,vc,rfl,_⟩:=hv
 clear hop hg hs L X Y
 go_enter Tryz.func3,Tryz.ntmps3
 go_wp2_with fail
 refine (U HC).mono ?_
 rintro e w1 ⟨rfl,hb⟩
 have HB:=Z hb
 clear hb HC
 go_wp2_with fail
 go_ret
 exact ⟨rfl,HB.out⟩
end Go.Proofs.YtojdpjpldokjmaaGreatDoor
