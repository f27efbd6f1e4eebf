/- The document's Exec: what is no statement, CREATE, INSERT. -/
import Derived.Test.YtojdpjpldokjmaaGreatDoorF24
import Derived.Test.YtojdpjpldokjmaaGreatDoorF09
import Derived.Test.YtojdpjpldokjmaaGreatDoorF26
import Derived.Test.YtojdpjpldokjmaaGreatDoorF18
import Derived.Test.YtojdpjpldokjmaaGreatDoorF13
import Derived.Test.YtojdpjpldokjmaaGreatDoorF23
set_option maxHeartbeats 60000000
set_option maxRecDepth 100000
namespace Go.Proofs.YtojdpjpldokjmaaGreatDoor
open Go.RowKit Go.Deep
set_option linter.unusedSimpArgs false
set_option linter.unusedVariables false
theorem ItemsAt.flds {w:World}{rb:Nat}:∀ {its:List Pl.It}{cs:List Value},ItemsAt w rb its cs->FldAt (its.map (fun i=>(i.name,i.type))) cs
 | [],cs,h,i,c,hc=>by simp at hc
 | it :: its,cs,⟨a,rest,hcs,ht,hr⟩,i,c,hc=>by
  subst hcs
  cases i with
  | zero=>simp at hc;subst hc;simp [itCells]
  | succ i =>
   simp only [List.map_cons,List.getElem?_cons_succ] at hc
   obtain ⟨h1,h2⟩:=ItemsAt.flds hr i c hc
   have hl:(itCells it (.pointer a)).length=5:=rfl
   constructor
   ·rw [List.getElem?_append_right (by rw [hl];omega),hl,show (i+1)*5 - 5=i*5 by omega];exact h1
   ·rw [List.getElem?_append_right (by rw [hl];omega),hl,show (i+1)*5+2 - 5=i*5+2 by omega];exact h2
theorem ItemsAt.vals {w:World}{rb:Nat}:∀ {its:List Pl.It}{cs:List Value},ItemsAt w rb its cs->∃ ps:List (Pl.T × Value),ps.map (·.1)=its.map (·.tree)/\(∀ (i:Nat)(p:Pl.T × Value),ps[i]?=some p->cs[i*5+3]?=some p.2)/\∀ p ∈ ps,RTree w rb p.1 p.2
 | [],cs,h=>⟨[],rfl,fun i p hp=>by simp at hp,fun p hp=>by cases hp⟩
 | it :: its,cs,⟨a,rest,hcs,ht,hr⟩=>by
  subst hcs
  obtain ⟨ps,h1,h2,h3⟩:=ItemsAt.vals hr
  refine ⟨(it.tree,.pointer a) :: ps,by simp [h1],fun i p hp=>?_,fun p hp=>?_⟩
  ·cases i with
   | zero=>simp at hp;subst hp;simp [itCells]
   | succ i =>
    simp only [List.getElem?_cons_succ] at hp
    have hl:(itCells it (.pointer a)).length=5:=rfl
    rw [List.getElem?_append_right (by rw [hl];omega),hl,show (i+1)*5+3 - 5=i*5+3 by omega]
    exact h2 i p hp
  ·rcases List.mem_cons.1 hp with rfl|hp
   ·exact ht
   ·exact h3 p hp
theorem ItemsW.its {w:World}{rb base:Nat}{its:List Pl.It}{v:Value}(h:ItemsW w rb base its v):∃ ps:List (Pl.T × Value),ps.map (·.1)=its.map (·.tree)/\ItsR w w.heap.size ps v/\∀ p ∈ ps,RTree w rb p.1 p.2:=by
 obtain ⟨cs,ho,hi⟩:=h
 obtain ⟨ps,h1,h2,h3⟩:=hi.vals
 have hlen:ps.length=its.length:=by have:=congrArg List.length h1;simpa using this
 refine ⟨ps,h1,?_,h3⟩
 obtain ⟨a,c,rfl,_⟩:=own_cap ho
 refine ⟨a,c,by rw [hlen],fun hn=>?_⟩
 have h0:0<ps.length:=by cases ps with
  | nil=>exact absurd rfl hn
  | cons _ _=>simp
 obtain ⟨g,_,he,_,hg,_⟩:=own_cell ho (h2 0 _ (List.getElem?_eq_getElem h0))
 cases he
 refine ⟨g,rfl,hg,fun i p hp=>?_⟩
 obtain ⟨g',_,he',_,_,hc⟩:=own_cell ho (h2 i p hp)
 cases he'
 exact hc
theorem RDbStep.boxed {w w1 w2 w3:World}{M M':Nat->Prop}{b:Nat}{D:Pl.DB}{lay:List Lay}(hM:∀ k,M k->k<w.heap.size)(hb:Below w.heap.size w w1)(hs:RDbStep (w.heap.size+1) w1 M b D w2 M' lay)(h3:But w.heap.size w2 w3):RDbStep w.heap.size w M b D w3 M' lay:=by
 have hnR:∀ k,M' k->k≠w.heap.size:=fun k hk e=>by
  rcases hs.new k hk with h|h
  ·have:=hM k h;omega
  ·omega
 refine ⟨hs.db.keep (Nat.le_of_eq h3.size.symm) (fun k hk=>h3.block k (hnR k hk)),hs.sub,fun k hk=>(hs.new k hk).imp id (fun h=>by omega),?_⟩
 have k1:=hs.keep
 refine ⟨h3.os.trans (k1.os.trans hb.os),h3.tape.trans (k1.tape.trans hb.tape),h3.output.trans (k1.output.trans hb.output),?_,fun k hk=>?_⟩
 ·have:=hb.size;have:=k1.size;have:=h3.size;omega
 ·rw [h3.block k (by omega),k1.block k ⟨by have:=hb.size;omega,hk.2⟩,hb.block k hk.1]
abbrev resO:Obj:=.cells #[.slice none 0 0,.int .i64 0] 36
theorem put2v {w:World}{R:Nat}{a b:Value}{T:TypeId}(hR:w.heap[R]?=some (.cells #[a,b] T))(x y:Value):((w.setCell ⟨R,0,none⟩ x).setCell ⟨R,1,none⟩ y).heap[R]?=some (.cells #[x,y] T):=by
 have:=bS (bS hR 0 x) 1 y
 simpa using this
theorem retE {Post:Ending->World->Prop}{ts:Array Value}{w1:World}{R:Nat}{a b x y er:Value}(hR:w1.heap[R]?=some (.cells #[a,b] 36))(h4:ts[4]?=some (.pointer (some ⟨R,0,none⟩)))(h5:ts[5]?=some er)
 (hP:Post (.returned (.tuple #[.agg #[x,y],er])) ((w1.setCell ⟨R,0,none⟩ x).setCell ⟨R,1,none⟩ y)) :
 bodyPost Tryz.prog Tryz.f32 Post Exit.ret { tmps:=ts,defers:=[] } ((w1.setCell ⟨R,0,none⟩ x).setCell ⟨R,1,none⟩ y):=by
 have hW:=put2v hR x y
 generalize (w1.setCell ⟨R,0,none⟩ x).setCell ⟨R,1,none⟩ y=W at *
 have q0:=bC hW 0
 have q1:=bC hW 1
 simp at q0 q1
 refine bodyPost_ret (v:=.tuple #[.agg #[x,y],er]) ?_ rfl hP
 simp [results,Tryz.results32,go_sem,Act.eval,h4,h5,q0,q1]
def RPostEx (w:World)(M:Nat->Prop)(b:Nat)(o:Pl.DB × Pl.Ans)(e:Ending)(w':World):Prop :=
 e=.returned (.tuple #[.agg #[.slice none 0 0,.int .i64 o.2.count],.int .i64 (o.2.err:Nat)])/\∃ M' lay',RDbStep w.heap.size w M b o.1 w' M' lay'
theorem execR (t:List UInt8)(ht:t.length<=1048576)(hk:∀ s,Pl.pParse t=some s->s.kind=99\/s.kind=105)(w:World)(M:Nat->Prop)(b:Nat)(lay:List Lay)(D:Pl.DB)(h:RDbW w M b lay D) :
 Calls Tryz.prog 32 #[.pointer (some ⟨b,0,none⟩),.string ⟨t.toArray⟩] w (RPostEx w M b (Pl.exec D t)):=by
 have hB0:Below w.heap.size w (w.alloc resO):=(Below.refl _ _).alloc (Nat.le_refl _) _
 have HP:=Z (parse_any ⟨t.toArray⟩ (w.alloc resO) ht)
 have HB0:=Z hB0
 have HX:=Z h
 have HM:=Z h.lt
 have hbw:=h.lt _ h.own
 clear h hB0
 have HSet:Hid (∀ w1 x y,But w.heap.size w1 ((w1.setCell ⟨w.heap.size,0,none⟩ x).setCell ⟨w.heap.size,1,none⟩ y)):=fun w1 x y=>((But.refl _ _).set 0 x).set 1 y
 cases hpp:Pl.pParse t with
 | none =>
  have HE:Hid (Pl.exec D t=(D,Pl.no 1)):=by unfold Hid Pl.exec;rw [hpp]
  rw [HE.out]
  have HPP:=Z hpp
  clear hk hpp
  go_enter Tryz.func32,Tryz.ntmps32
  go_wp2_with fail
  refine (U HP).mono ?_
  rintro e w1 ⟨hb1,a,rfl,h1⟩
  have h1':a=none:=by
   have hq:Pl.pParse (⟨t.toArray⟩:ByteArray).data.toList=none:=by simpa using HPP.out
   rw [hq] at h1
   exact h1
  subst h1'
  have hR:=bB hb1 (by simp) (blk_new w resO)
  have hRz:=lB hR
  have f0:=bF hR 0
  have f1:=bF hR 1
  have r0:=bC hR 0
  have r1:=bC hR 1
  simp at r0 r1
  have HB1:=Z (HB0.out.trans (hb1.mono HB0.out.size))
  have HR:=Z hR
  clear hb1 HP hR h1
  go_wp2_with fail
  refine retE HR.out rfl rfl ⟨rfl,M,lay,?_⟩
  exact RDbStep.boxed HM.out HB1.out (RDbStep.below (HX.out.below HB1.out) (Below.refl _ _)) (HSet.out _ _ _)
 | some s =>
  have HE:Hid (Pl.exec D t=Pl.doSt D s):=by unfold Hid Pl.exec;rw [hpp]
  have HPP:=Z hpp
  have HOk:=Z (Pl.parse_ok hpp)
  have HSh:=Z (Pl.parse_shp hpp)
  have hkk:=hk s hpp
  rw [HE.out]
  clear hk hpp
  rcases hkk with hk1|hk1
  ·have hds:Pl.doSt D s=Pl.doCreate D s:=by unfold Pl.doSt;rw [if_pos hk1]
   rw [hds]
   clear hds
   go_enter Tryz.func32,Tryz.ntmps32
   go_wp2_with fail
   refine (U HP).mono ?_
   rintro e w1 ⟨hb1,a,rfl,h1⟩
   have hq:Pl.pParse (⟨t.toArray⟩:ByteArray).data.toList=some s:=by simpa using HPP.out
   rw [hq] at h1
   obtain ⟨rb,hrb,p,vi,vs,vk,vw,rfl,hrp,hst,hi,hso,hwh,hke⟩:=h1
   have hR:=bB hb1 (by simp) (blk_new w resO)
   have HB1:=Z (HB0.out.trans (hb1.mono HB0.out.size))
   obtain ⟨cs0,hown,hat⟩:=hi
   have hrb':w.heap.size+1<=rb:=by simpa using hrb
   have HC:=Z (createR (w.heap.size+1) s HOk.out hk1 p (rb+1) vi cs0 _ _ _ _ _ _ _ _ w1 M b lay D (HX.out.below HB1.out) (by have:=hb1.size;simpa using this) hst (by simpa [colsOf] using hown) hat.flds (fun k hk=>by have:=(hown.lt k hk).1;omega))
   have hpz:=lB hst
   have k0:=bC hst 0
   simp [stCells] at k0
   rw [hk1] at k0
   have HR:=Z hR
   have hRz:=lB hR
   clear hb1 HP hR hq hst hown hat hso hwh hke hrb
   go_wp2_with fail
   refine (U HC).mono ?_
   rintro e w2 ⟨rfl,M2,lay2,hs2⟩
   have hR2:w2.heap[w.heap.size]?=some resO:=(hs2.keep.block _ ⟨hRz,fun hm=>by have:=HM.out _ hm;omega⟩).trans HR.out
   have hRz2:=lB hR2
   have f0:=bF hR2 0
   have f1:=bF hR2 1
   have r0:=bC hR2 0
   have r1:=bC hR2 1
   simp at r0 r1
   have HS2:=Z hs2
   have HR2:=Z hR2
   have HCr:=Z (create_rows D s).2
   clear HC hs2 hR2
   go_wp2_with fail
   refine retE HR2.out rfl rfl ⟨?_,M2,lay2,RDbStep.boxed HM.out HB1.out HS2.out (HSet.out _ _ _)⟩
   rw [HCr.out]
   rfl
  ·have hds:Pl.doSt D s=Pl.doInsert D s:=by unfold Pl.doSt;rw [if_neg (by omega),if_pos hk1]
   rw [hds]
   clear hds
   go_enter Tryz.func32,Tryz.ntmps32
   go_wp2_with fail
   refine (U HP).mono ?_
   rintro e w1 ⟨hb1,a,rfl,h1⟩
   have hq:Pl.pParse (⟨t.toArray⟩:ByteArray).data.toList=some s:=by simpa using HPP.out
   rw [hq] at h1
   obtain ⟨rb,hrb,p,vi,vs,vk,vw,rfl,hrp,hst,hi,hso,hwh,hke⟩:=h1
   have hR:=bB hb1 (by simp) (blk_new w resO)
   have HB1:=Z (HB0.out.trans (hb1.mono HB0.out.size))
   obtain ⟨ps,hps,hits,htr⟩:=hi.its
   have HC:=Z (insertR (w.heap.size+1) s HOk.out hk1 ps hps (fun p hp=>by
    have:p.1 ∈ s.items.map (·.tree):=by rw [<- hps];exact List.mem_map_of_mem hp
    obtain ⟨it,h1,h2⟩:=List.mem_map.1 this
    rw [<- h2]
    exact HSh.out.items it h1) p vi _ _ _ _ _ _ _ _ w1 M b lay D (HX.out.below HB1.out) (by have:=hb1.size;simpa using this) hst hits rb htr)
   have hpz:=lB hst
   have k0:=bC hst 0
   simp [stCells] at k0
   rw [hk1] at k0
   have HR:=Z hR
   have hRz:=lB hR
   clear hb1 HP hR hq hst hi hits htr hps hso hwh hke hrb
   go_wp2_with fail
   refine (U HC).mono ?_
   rintro e w2 ⟨rfl,M2,lay2,hs2⟩
   have hR2:w2.heap[w.heap.size]?=some resO:=(hs2.keep.block _ ⟨hRz,fun hm=>by have:=HM.out _ hm;omega⟩).trans HR.out
   have hRz2:=lB hR2
   have f0:=bF hR2 0
   have f1:=bF hR2 1
   have r0:=bC hR2 0
   have r1:=bC hR2 1
   simp at r0 r1
   have HS2:=Z hs2
   have HR2:=Z hR2
   clear HC hs2 hR2
   go_wp2_with fail
   exact retE HR2.out rfl rfl ⟨rfl,M2,lay2,RDbStep.boxed HM.out HB1.out HS2.out (HSet.out _ _ _)⟩
def Pl.let1 (t:List UInt8):Bool:=match Pl.pParse t with
 | none=>true
 | some s=>s.kind == 99 || s.kind == 105
theorem Pl.let1_kind {t:List UInt8}(h:Pl.let1 t=true):∀ s,Pl.pParse t=some s->s.kind=99\/s.kind=105:=fun s hs=>by
 unfold Pl.let1 at h
 rw [hs] at h
 simpa using h
theorem mayN (t:List UInt8)(ht:t.length<=1048576)(w:World):Calls Tryz.prog 54 #[.string ⟨t.toArray⟩,.int .i64 1] w fun e w'=>e=.returned (.bool (Pl.let1 t))/\Below w.heap.size w w':=by
 have HP:=Z (parse_any ⟨t.toArray⟩ w ht)
 generalize hL:Pl.let1 t=lt
 have HL:=Z hL
 clear hL
 cases hpp:Pl.pParse t with
 | none =>
  have HPP:=Z hpp
  have hlt:lt=true:=by rw [<- HL.out];unfold Pl.let1;rw [hpp]
  subst hlt
  clear hpp HL
  go_enter Tryz.func54,Tryz.ntmps54
  go_wp2_with fail
  refine (U HP).mono ?_
  rintro e w1 ⟨hb1,a,rfl,h1⟩
  have h1':a=none:=by
   have hq:Pl.pParse (⟨t.toArray⟩:ByteArray).data.toList=none:=by simpa using HPP.out
   rw [hq] at h1
   exact h1
  subst h1'
  have HB1:=Z hb1
  clear hb1 h1 HP
  go_wp2_with fail
  go_ret
  exact ⟨rfl,HB1.out⟩
 | some s =>
  have HPP:=Z hpp
  have hlt:lt=(s.kind == 99 || s.kind == 105):=by rw [<- HL.out];unfold Pl.let1;rw [hpp]
  have hkk:=(Pl.parse_ok hpp).kind
  clear hpp HL
  rcases hkk with hk|hk|hk|hk|hk
  all_goals
   rw [hk] at hlt
   simp at hlt
   subst hlt
   go_enter Tryz.func54,Tryz.ntmps54
   go_wp2_with fail
   refine (U HP).mono ?_
   rintro e w1 ⟨hb1,a,rfl,h1⟩
   have hq:Pl.pParse (⟨t.toArray⟩:ByteArray).data.toList=some s:=by simpa using HPP.out
   rw [hq] at h1
   obtain ⟨rb,hrb,p,vi,vs,vk,vw,rfl,hrp,hst,_,_,_,_⟩:=h1
   have hpz:=lB hst
   have k0:=bC hst 0
   simp [stCells] at k0
   rw [hk] at k0
   have HB1:=Z hb1
   clear hb1 hst hq HP hrb hrp hk
   go_wp2_with fail
   go_ret
   exact ⟨rfl,HB1.out⟩
theorem sameN (c:Int)(w:World):Calls Tryz.prog 88 #[.agg #[.slice none 0 0,.int .i64 c],.agg #[.slice none 0 0,.int .i64 c]] w fun e w'=>e=.returned (.bool true)/\Below w.heap.size w w':=by
 have HB:Hid (∀ o o2,Below w.heap.size w ((w.alloc o).alloc o2)):=fun o o2=>((Below.refl _ _).alloc (Nat.le_refl _) _).alloc (by simp) _
 go_enter Tryz.func88,Tryz.ntmps88
 go_wp2_with fail
 go_loop [5] (fun b=>b=.int .i64 0) (fun _=>0)
 case atStart=>rfl
 case round =>
  obtain rfl:=hrel
  go_wp2_with fail
  go_ret
  exact ⟨rfl,HB.out _ _⟩
def LawOk (B0:Nat)(w0 w:World)(wb came n len:Nat):Prop:=∃ col F psv ov o3 gs ps,LawW B0 w0 w col F wb came psv ov o3 n gs ps/\ps.length=len/\∀ (j:Nat)(q:Pr),ps[j]?=some q->q.D=q.E
theorem execL (L:LexLib)(X:MachLib)(t:List UInt8)(ht:t.length<=1048576)(hlet:Pl.let1 t=true){B0:Nat}{w0 w:World}{col:Nat->Int}{F:Nat->Prop}{wb came:Nat}{psv ov o3:Value}{n:Nat}{gs:List Value}{ps:List Pr}(h:LawW B0 w0 w col F wb came psv ov o3 n gs ps){i:Nat}{p:Pr}(hp:ps[i]?=some p)(heq:∀ (j:Nat)(q:Pr),ps[j]?=some q->q.D=q.E)(hn:n<=80000000)(hc:came<=80000000) :
 Calls Tryz.prog 55 #[.pointer (some ⟨wb,0,none⟩),.pointer (some ⟨p.pb,0,none⟩),.string ⟨t.toArray⟩] w fun e w'=>e=.returned (.bool true)/\∃ n',n'<=n+2/\LawOk B0 w0 w' wb (came+1) n' ps.length:=by
 have hP:=h.each i p hp
 have hbx:=hP.box
 have hbz:=lB hbx
 have b0:=bC hbx 0
 simp at b0
 have HEx:=Z (execM1 L X t w p.M p.b p.lay p.D hP.live ht (Pl.let1_kind hlet))
 have HP:=Z hP
 have HX:=Z h
 have HEq:=Z heq
 have HPe:Hid (p.D=p.E):=heq i p hp
 have HPi:=Z hp
 have HLet:=Z hlet
 generalize hout:Pl.exec p.D t=out at *
 have HOut:=Z hout
 clear hP hbx h heq hp hlet hout
 go_enter Tryz.func55,Tryz.ntmps55
 go_wp2_with fail
 refine (U HEx).mono ?_
 rintro e w1 ⟨⟨rv,M1,lay1,rfl,hs1,ho1⟩,xc,xe,hnil⟩
 have hrv:rv=.slice none 0 0:=by
  injection hnil with hnil
  injection hnil with hnil
  simp at hnil
  exact hnil.1.1
 subst hrv
 have hst1:Stp w p.M w1 M1:=⟨hs1.keep,hs1.new⟩
 obtain ⟨col1,hW1⟩:=HX.out.stepM HPi.out hst1 (HP.out.live.step hs1)
 have hi1:(ps.set i ⟨p.pb,p.b,p.rb,M1,p.R,lay1,p.rlay,out.1,p.E⟩)[i]?=some ⟨p.pb,p.b,p.rb,M1,p.R,lay1,p.rlay,out.1,p.E⟩:=by
  rw [List.getElem?_set,if_pos rfl,if_pos (getElem?_lt HPi.out)]
 have HI1:=Z hi1
 have HW1:=Z hW1
 clear hs1 ho1 hnil hst1 HEx b0 hbz hi1 hW1
 go_upto_region 2 with fail
 have hb2:Below w1.heap.size w1 (w1.alloc (.cells #[.slice none 0 0,.int .i64 out.2.count] 36)):=(Below.refl _ _).alloc (Nat.le_refl _) _
 have hA:=blk_new w1 (.cells #[.slice none 0 0,.int .i64 out.2.count] 36)
 generalize w1.alloc (.cells #[.slice none 0 0,.int .i64 out.2.count] 36)=w2 at *
 have hW2:=HW1.out.below hb2
 have hP2:=hW2.each i _ HI1.out
 have HRl:Hid (∀ k,p.R k->k<w1.heap.size):=(HW1.out.each i _ HI1.out).lt.2.2
 generalize w1.heap.size=A at *
 have hAz:=lB hA
 have a0:=bC hA 0
 have a1:=bC hA 1
 simp at a0 a1
 have c1:=bC hP2.box 1
 simp at c1
 have hcz:=lB hP2.box
 have HA:=Z hA
 have HW2:=Z hW2
 have HRx:=Z (execR t ht (Pl.let1_kind HLet.out) w2 p.R p.rb p.rlay p.E hP2.ref)
 rw [<- HPe.out,HOut.out] at HRx
 clear hb2 hA hW2 hP2 a0 a1 HW1
 simp only at hcz
 go_wp2_with fail
 refine (U HRx).mono ?_
 rintro e w3 ⟨rfl,R3,lay3,hs3⟩
 have hst3:Stp w2 p.R w3 R3:=⟨hs3.keep,hs3.new⟩
 obtain ⟨col3,hW3⟩:=HW2.out.stepR HI1.out hst3 hs3.db
 have hA3:w3.heap[A]?=_:=(hs3.keep.block A ⟨hAz,fun hr=>by have:=HRl.out A hr;omega⟩).trans HA.out
 have HA3:=Z hA3
 have HW3:=Z hW3
 clear hs3 hst3 hW3 HRx c1 hcz hA3 HW2 HA
 go_upto_region 3 with fail
 have hb4:Below w3.heap.size w3 (w3.alloc (.cells #[.slice none 0 0,.int .i64 out.2.count] 36)):=(Below.refl _ _).alloc (Nat.le_refl _) _
 have hBb:=blk_new w3 (.cells #[.slice none 0 0,.int .i64 out.2.count] 36)
 have hA4:=bA HA3.out (.cells #[.slice none 0 0,.int .i64 out.2.count] 36)
 generalize w3.alloc (.cells #[.slice none 0 0,.int .i64 out.2.count] 36)=w4 at *
 have hW4:=HW3.out.below hb4
 generalize w3.heap.size=B at *
 have hAz4:=lB hA4
 have hBz4:=lB hBb
 have a0:=bC hA4 0
 have a1:=bC hA4 1
 have e0:=bC hBb 0
 have e1:=bC hBb 1
 simp at a0 a1 e0 e1
 have HA4:=Z hA4
 have HW4:=Z hW4
 have HSm:=Z (sameN out.2.count w4)
 clear hb4 hBb hA4 hW4 HW3 HA3
 go_wp2_with fail
 refine (U HSm).mono ?_
 rintro e w5 ⟨rfl,hb5⟩
 have hW5:=HW4.out.below hb5
 have hA5:=bB hb5 hAz4 HA4.out
 have g0:=bC hA5 0
 simp at g0
 have hAz5:=lB hA5
 have HTk:=Z (takesN w5 F wb came psv ov o3 n gs hW5.law (by omega) (by omega) hW5.len)
 have HW5:=Z hW5
 clear hb5 hW5 hA5 HSm a0 a1 e0 e1 hBz4 hAz4 HA4 HW4
 have HEnd:Hid (∀ w6,PostTk w5 F wb came psv ov o3 n (.returned (.tuple #[])) w6->∃ n',n'<=n+2/\LawOk B0 w0 w6 wb (came+1) n' ps.length):=fun w6 hpt=>by
  obtain ⟨_,F6,ov6,o36,n6,gs6,hL6,hg6,hn6,hs6⟩:=hpt
  obtain ⟨col6,hW6⟩:=HW5.out.stepL hL6 hg6 hs6
  refine ⟨n6,hn6,col6,F6,psv,ov6,o36,gs6,_,hW6,by simp,fun j q hq=>?_⟩
  rcases set_at HI1.out hq with ⟨rfl,rfl⟩|⟨hj,hq'⟩
  ·rfl
  ·rcases set_at HPi.out hq' with ⟨rfl,rfl⟩|⟨_,hq2⟩
   ·exact absurd rfl hj
   ·exact HEq.out j q hq2
 by_cases h0:out.2.err=0
 ·have he0:((out.2.err:Int) != 0)=false:=by rw [h0];rfl
  clear h0
  go_wp2_with fail
  refine (U HTk).mono ?_
  intro e w6 hpt
  have he6:=hpt.1
  subst he6
  have HE6:=Z (HEnd.out w6 hpt)
  clear hpt HTk
  go_wp2_with fail
  go_ret
  exact ⟨rfl,HE6.out⟩
 ·have he0:((out.2.err:Int) != 0)=true:=by simp;omega
  clear h0
  go_wp2_with fail
  refine (U HTk).mono ?_
  intro e w6 hpt
  have he6:=hpt.1
  subst he6
  have HE6:=Z (HEnd.out w6 hpt)
  clear hpt HTk
  go_wp2_with fail
  go_ret
  exact ⟨rfl,HE6.out⟩
abbrev rdbO:Obj:=.cells #[.slice none 0 0] 105
theorem RDbW.new (w:World):RDbW (w.alloc rdbO) (oneB w.heap.size) w.heap.size [] [] :=
 ⟨fun k hk=>by cases hk;simp,rfl,⟨.slice none 0 0,blk_new _ _,own_nil,fun k hk=>(by cases hk)⟩,rfl,fun i l t hl=>(by simp at hl),fun i j l m _ hl=>(by simp at hl),okDB_nil⟩
abbrev pairO (b rb:Nat):Obj:=.cells #[.pointer (some ⟨b,0,none⟩),.pointer (some ⟨rb,0,none⟩)] 70
def newPr (s:Nat):Pr:=⟨s+2,s,s+1,oneB s,oneB (s+1),[],[],[],[]⟩
theorem alloc_at (w:World)(o:Obj):(w.alloc o).heap.size=w.heap.size+1:=by simp
theorem LawW.push {B0:Nat}{w0 w:World}{col:Nat->Int}{F:Nat->Prop}{wb came:Nat}{psv ov o3:Value}{n:Nat}{gs:List Value}{ps:List Pr}(h:LawW B0 w0 w col F wb came psv ov o3 n gs ps)(hg:Globs w)(hsv:SaveG w){o:Obj}{w5:World}{v':Value}
 (hown:w5.ownsRow 0 71 1 v' (ps.length+1) (ps.map prPtr++[.pointer (some ⟨w.heap.size+2,0,none⟩)])) (hgr:((((w.alloc dbO).alloc rdbO).alloc (pairO w.heap.size (w.heap.size+1))).alloc o).grownBy w5 psv.ownBlock) (ho:v'.ownBlock=psv.ownBlock\/v'.ownBlock=some (w.heap.size+4)) :
 w5.heap[wb]?=some (worldO came psv ov o3)/\∃ col',LawW B0 w0 (w5.setCell ⟨wb,4,none⟩ v') col' F wb came v' ov o3 n gs (ps++[newPr w.heap.size]):=by
 have hz:w.heap.size+4<=w5.heap.size:=by have:=hgr.size;simpa using this
 have hk5:∀ k,k<w.heap.size->psv.ownBlock≠some k->w5.heap[k]?=w.heap[k]?:=fun k hk hne=>by
  rw [hgr.block k (by simp;omega) (fun e=>hne e.symm),Below.heap_alloc _ _ _ (by simp;omega),Below.heap_alloc _ _ _ (by simp;omega),Below.heap_alloc _ _ _ (by simp;omega),Below.heap_alloc _ _ _ hk]
 have hnew:∀ k,w.heap.size<=k->k<w.heap.size+4->w5.heap[k]?=((((w.alloc dbO).alloc rdbO).alloc (pairO w.heap.size (w.heap.size+1))).alloc o).heap[k]?:=fun k h1 h2=>hgr.block k (by simp;omega) (fun e=>by have:=(h.row.lt k e.symm).2;omega)
 have hcol:∀ k,col k≠-3->psv.ownBlock≠some k:=fun k hk e=>hk (h.cP k e)
 have hwbz:=lB h.law.box
 have hwbc:col wb=-2:=h.cL wb (.inl rfl)
 have hbx:=(hk5 wb hwbz (hcol wb (by rw [hwbc];omega))).trans h.law.box
 have hL5:LawM w5 F wb came psv ov o3 n gs:=h.law.keep (by omega) (fun k hk=>hk5 k (h.law.lt hk) (hcol k (by rw [h.cL k hk];omega)))
 have hBu:But wb w5 (w5.setCell ⟨wb,4,none⟩ v'):=(But.refl _ _).set 4 v'
 have hbx6:(w5.setCell ⟨wb,4,none⟩ v').heap[wb]?=some (worldO came v' ov o3):=by
  have:=bS hbx 4 v'
  simpa using this
 obtain ⟨hL6,_⟩:=hL5.put hBu hbx6
 have hsz:(w5.setCell ⟨wb,4,none⟩ v').heap.size=w5.heap.size:=size_set _ _ _
 have hk6:∀ k,k<w.heap.size->col k≠-3->col k≠-2->(w5.setCell ⟨wb,4,none⟩ v').heap[k]?=w.heap[k]?:=fun k h1 h2 h3=>by
  rw [hBu.block k (fun e=>h3 (by rw [e];exact hwbc))]
  exact hk5 k h1 (hcol k h2)
 have hn6:∀ k,w.heap.size<=k->k<w.heap.size+4->(w5.setCell ⟨wb,4,none⟩ v').heap[k]?=((((w.alloc dbO).alloc rdbO).alloc (pairO w.heap.size (w.heap.size+1))).alloc o).heap[k]?:=fun k h1 h2=>by
  rw [hBu.block k (by omega)]
  exact hnew k h1 h2
 have hG6:∀ k,Gl k->(w5.setCell ⟨wb,4,none⟩ v').heap[k]?=w.heap[k]?:=fun k hk=>hk6 k (h.cG k hk).2 (by rw [(h.cG k hk).1];omega) (by rw [(h.cG k hk).1];omega)
 generalize hWW:w5.setCell ⟨wb,4,none⟩ v'=W at *
 have hvW:W.ownsRow 0 71 1 v' (ps.length+1) (ps.map prPtr++[.pointer (some ⟨w.heap.size+2,0,none⟩)]):=own_at hown (fun k hk=>hBu.block k (fun e=>by
  rcases ho with h0|h0
  ·rw [h0] at hk
   have:=h.cP k hk
   rw [e,hwbc] at this
   omega
  ·rw [h0] at hk;cases hk;omega))
 have hat:∀ (j:Nat) (q:Pr),(ps++[newPr w.heap.size])[j]?=some q->(j<ps.length/\ps[j]?=some q)\/(j=ps.length/\q=newPr w.heap.size):=fun j q hq=>by
  by_cases hj:j<ps.length
  ·rw [List.getElem?_append_left hj] at hq;exact .inl ⟨hj,hq⟩
  ·have hj2:j=ps.length:=by have:=getElem?_lt hq;simp at this;omega
   subst hj2
   simp at hq
   exact .inr ⟨rfl,hq.symm⟩
 refine ⟨hbx,fun k=>if k<w.heap.size then col k else if k=w.heap.size then 2*(ps.length:Int) else if k=w.heap.size+1 then 2*(ps.length:Int)+1 else if k=w.heap.size+2 then -4 else -3,?_,?_,?_,hL6,h.len,?_,?_,?_,?_,?_,?_,?_,?_⟩
 ·have hos:W.os=w.os/\W.tape=w.tape/\W.output=w.output:=⟨hBu.os.trans hgr.os,hBu.tape.trans hgr.tape,hBu.output.trans hgr.output⟩
  refine ⟨hos.1.trans h.bel.os,hos.2.1.trans h.bel.tape,hos.2.2.trans h.bel.output,by have:=h.bel.size;omega,fun k hk=>?_⟩
  exact (hk6 k (Nat.lt_of_lt_of_le hk h.hB) (by rcases h.cO k hk with e|e <;> rw [e] <;> omega) (by rcases h.cO k hk with e|e <;> rw [e] <;> omega)).trans (h.bel.block k hk)
 ·have:=h.hB;omega
 ·intro k hk
  show (if k<w.heap.size then _ else _)=_\/(if k<w.heap.size then _ else _)=_
  rw [if_pos (Nat.lt_of_lt_of_le hk h.hB)]
  exact h.cO k hk
 ·simpa [prPtr,newPr] using hvW
 ·intro j q hq
  rcases hat j q hq with ⟨hj,hq'⟩|⟨rfl,rfl⟩
  ·have hP:=h.each j q hq'
   refine hP.keep (by omega) (fun k hk'=>?_)
   rcases hk' with hk'|hk'|hk'|rfl
   ·exact hk6 k (hP.lt.2.1 k hk') (by rw [h.cM j q hq' k hk'];omega) (by rw [h.cM j q hq' k hk'];omega)
   ·exact hk6 k (hP.lt.2.2 k hk') (by rw [h.cR j q hq' k hk'];omega) (by rw [h.cR j q hq' k hk'];omega)
   ·exact hG6 k hk'
   ·exact hk6 _ hP.lt.1 (by rw [h.cB j q hq'];omega) (by rw [h.cB j q hq'];omega)
  ·have hGa:∀ k,Gl k->W.heap[k]?=(w.alloc dbO).heap[k]?:=fun k hk=>(hG6 k hk).trans (Below.heap_alloc _ _ _ (h.cG k hk).2).symm
   have h0:W.heap[w.heap.size]?=(w.alloc dbO).heap[w.heap.size]?:=by
    rw [hn6 _ (by omega) (by omega),Below.heap_alloc _ _ _ (by simp;omega),Below.heap_alloc _ _ _ (by simp;omega),Below.heap_alloc _ _ _ (by simp)]
   refine ⟨?_,(Live.new hg).keepG (by simp;omega) (fun k hk=>hk.elim (fun e=>by cases e;exact h0) (hGa k)),(SvG.new hsv).keepG hGa,?_⟩
   ·show W.heap[w.heap.size+2]?=_
    rw [hn6 _ (by omega) (by omega),Below.heap_alloc _ _ _ (by simp)]
    have:=blk_new ((w.alloc dbO).alloc rdbO) (pairO w.heap.size (w.heap.size+1))
    rw [alloc_at,alloc_at] at this
    exact this
   ·have hr:=RDbW.new (w.alloc dbO)
    rw [alloc_at] at hr
    refine hr.keep (by simp;omega) (fun k e=>?_)
    cases e
    rw [hn6 _ (by omega) (by omega),Below.heap_alloc _ _ _ (by simp),Below.heap_alloc _ _ _ (by simp)]
 ·intro k hk
  show (if k<w.heap.size then _ else _)=_/\_
  rw [if_pos (h.cG k hk).2]
  exact ⟨(h.cG k hk).1,by have:=(h.cG k hk).2;omega⟩
 ·intro k hk
  show (if k<w.heap.size then _ else _)=_
  rw [if_pos (h.law.lt hk)]
  exact h.cL k hk
 ·intro k hk
  show (if k<w.heap.size then _ else _)=_
  rcases ho with h0|h0
  ·rw [h0] at hk
   rw [if_pos (h.row.lt k hk).2]
   exact h.cP k hk
  ·rw [h0] at hk
   cases hk
   rw [if_neg (by omega),if_neg (by omega),if_neg (by omega),if_neg (by omega)]
 ·intro j q hq
  show (if q.pb<w.heap.size then _ else _)=_
  rcases hat j q hq with ⟨hj,hq'⟩|⟨rfl,rfl⟩
  ·rw [if_pos (h.each j q hq').lt.1]
   exact h.cB j q hq'
  ·have e:(newPr w.heap.size).pb=w.heap.size+2:=rfl
   rw [e,if_neg (by omega),if_neg (by omega),if_neg (by omega),if_pos rfl]
 ·intro j q hq k hk
  show (if k<w.heap.size then _ else _)=_
  rcases hat j q hq with ⟨hj,hq'⟩|⟨rfl,rfl⟩
  ·rw [if_pos ((h.each j q hq').lt.2.1 k hk)]
   exact h.cM j q hq' k hk
  ·cases hk
   rw [if_neg (by omega),if_pos rfl]
 ·intro j q hq k hk
  show (if k<w.heap.size then _ else _)=_
  rcases hat j q hq with ⟨hj,hq'⟩|⟨rfl,rfl⟩
  ·rw [if_pos ((h.each j q hq').lt.2.2 k hk)]
   exact h.cR j q hq' k hk
  ·cases hk
   rw [if_neg (by omega),if_neg (by omega),if_pos rfl]
theorem Tryz.infoPair:(Tryz.prog.info? 71).map (fun i=>(i.zero,i.size,i.bytes))=some (some (.pointer none),1,8):=by kernel_rfl
theorem openX {B0:Nat}{w0 w:World}{col:Nat->Int}{F:Nat->Prop}{wb came:Nat}{psv ov o3:Value}{n:Nat}{gs:List Value}{ps:List Pr}(h:LawW B0 w0 w col F wb came psv ov o3 n gs ps)(hg:Globs w)(hsv:SaveG w)(hl:ps.length<=100000000) :
 Calls Tryz.prog 31 #[.pointer (some ⟨wb,0,none⟩)] w fun e w'=>e=.returned (.bool true)/\∃ col' psv' s,LawW B0 w0 w' col' F wb came psv' ov o3 n gs (ps++[newPr s]):=by
 obtain ⟨pa,pc,rfl,_⟩:=own_cap h.row
 have HX:=Z h
 have hbx:=bA h.law.box dbO
 have hbz:=lB hbx
 have b4:=bC hbx 4
 simp at b4
 obtain ⟨i0,hi,hz0,hz1,hz2⟩:=info_parts Tryz.infoPair
 have HOwn:=Z (((h.row.alloc dbO).alloc rdbO).alloc (pairO w.heap.size (w.heap.size+1)))
 have HN:=Z (newM w)
 have HPush:Hid (∀ o w5 v',w5.ownsRow 0 71 1 v' (ps.length+1) (ps.map prPtr++[.pointer (some ⟨w.heap.size+2,0,none⟩)])->((((w.alloc dbO).alloc rdbO).alloc (pairO w.heap.size (w.heap.size+1))).alloc o).grownBy w5 (Value.ownBlock (.slice pa ps.length pc))->(v'.ownBlock=Value.ownBlock (.slice pa ps.length pc)\/v'.ownBlock=some (w.heap.size+4))->w5.heap[wb]?=some (worldO came (.slice pa ps.length pc) ov o3)/\∃ col' psv' s,LawW B0 w0 (w5.setCell ⟨wb,4,none⟩ v') col' F wb came psv' ov o3 n gs (ps++[newPr s])):=fun o w5 v' h1 h2 h3=>by
  obtain ⟨hb,col',hW⟩:=h.push hg hsv h1 h2 h3
  exact ⟨hb,col',v',_,hW⟩
 clear h hg hsv hbx
 go_enter Tryz.func31,Tryz.ntmps31
 go_wp2_with fail
 refine (U HN).mono ?_
 rintro e w1 ⟨rfl,rfl⟩
 clear HN
 go_wp2_with (at_builtin;refine wpList_append_own_at _ rfl (.tmp 9) (.tmp 15) 64 rfl 0 71 i0 _ 1 8 Tryz.underlying64 hi hz0 hz1 hz2 rfl (by decide) _ _ _ rfl ((U HOwn).alloc _) ⟨_,0,none⟩ 1 1 [.pointer (some ⟨w.heap.size+2,0,none⟩)] rfl rfl ?c1 ?c2 ?c3 ?c4 ?c5 ?_)
 case c1 =>
  have:=news_at (((w.alloc dbO).alloc rdbO).alloc (pairO w.heap.size (w.heap.size+1))) [.pointer (some ⟨w.heap.size+2,0,none⟩)] 71
  simp only [alloc_at] at this
  exact this
 case c2=>intro u hu;simp at hu;subst hu;rfl
 case c3=>unfold maxLen;omega
 case c4=>omega
 case c5=>exact Nat.zero_le _
 intro v5 w5 hown5 hg5 _ ho5
 obtain ⟨hb5,hok5⟩:=HPush.out _ w5 v5 hown5 hg5 (by simpa using ho5)
 have y4:=bC hb5 4
 have yf:=bF hb5 4
 have yz:=lB hb5
 simp at y4
 obtain ⟨xa,xn,xc,rfl⟩:=own_slice hown5
 have HOk:=Z hok5
 clear hb5 hok5 hown5 hg5 ho5 HPush HOwn
 go_wp2_with fail
 go_ret
 exact ⟨rfl,HOk.out⟩
theorem openL {B0:Nat}{w0 w:World}{col:Nat->Int}{F:Nat->Prop}{wb came:Nat}{psv ov o3:Value}{n:Nat}{gs:List Value}{ps:List Pr}(h:LawW B0 w0 w col F wb came psv ov o3 n gs ps)(heq:∀ (j:Nat)(q:Pr),ps[j]?=some q->q.D=q.E)(hg:Globs w)(hsv:SaveG w)(hl:ps.length<=100000000) :
 Calls Tryz.prog 31 #[.pointer (some ⟨wb,0,none⟩)] w fun e w'=>e=.returned (.bool true)/\LawOk B0 w0 w' wb came n (ps.length+1):=by
 refine (openX h hg hsv hl).mono ?_
 rintro e w' ⟨he,col',psv',s,hW⟩
 refine ⟨he,col',F,psv',ov,o3,gs,_,hW,by simp,fun j q hq=>?_⟩
 by_cases hj:j<ps.length
 ·rw [List.getElem?_append_left hj] at hq;exact heq j q hq
 ·have hj2:j=ps.length:=by have:=getElem?_lt hq;simp at this;omega
  subst hj2
  simp at hq
  subst hq
  rfl
end Go.Proofs.YtojdpjpldokjmaaGreatDoor
