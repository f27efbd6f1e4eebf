/- The code's compiler: the name of a column. -/
import Derived.Test.YtojdpjpldokjmaaGreatDoorF12
import Derived.BigQuiet
import Derived.Test.YtojdpjpldokjmaaGreatDoorF10
import Derived.Test.YtojdpjpldokjmaaGreatDoorF07
import Derived.Test.YtojdpjpldokjmaaGreatDoorF08
import Derived.Test.YtojdpjpldokjmaaGreatDoorF11
set_option maxHeartbeats 60000000
set_option maxRecDepth 100000
namespace Go.Proofs.YtojdpjpldokjmaaGreatDoor
open Go.RowKit Go.Deep
set_option linter.unusedSimpArgs false
set_option linter.unusedVariables false
theorem RowsW.col {w:World}{hi:Nat}{cols:List Pl.Col}{v:Value}(h:RowsW w hi 3 colC cols v){i:Nat}{c:Pl.Col}(hc:cols[i]?=some c):∃ g cap,v=.slice (some ⟨g,0,none⟩) cols.length cap/\g<hi /\
 w.cell? ⟨g,i*3,none⟩=some (.string ⟨c.src.toArray⟩)/\w.cell? ⟨g,i*3+1,none⟩=some (.string ⟨c.name.toArray⟩)/\w.cell? ⟨g,i*3+2,none⟩=some (.int .i64 c.type):=by
 obtain ⟨a,cap,rfl,h2⟩:=h
 obtain ⟨g,rfl,hg,h3⟩:=h2 (by rintro rfl;simp at hc)
 exact ⟨g,cap,rfl,hg,h3 i c hc 0 _ rfl,h3 i c hc 1 _ rfl,h3 i c hc 2 _ rfl⟩
theorem eq_facts {a b:List UInt8}(h:a=b):(a == b)=true/\(a != b)=false:=by subst h;simp
theorem ne_facts {a b:List UInt8}(h:¬ a=b):(a == b)=false/\(a != b)=true:=by simp [h]
def fI:Option Nat->Int
 | none=>-1
 | some j=>j
def NameI (w wr:World)(p:Pl.Pay)(cols:List Pl.Col)(i:Nat)(f:Option Nat):Prop:=Pl.colGo p.src p.name (cols.drop i) i f=Pl.colAt cols p.src p.name/\(∀ j,f=some j->j<i)/\Below w.heap.size w wr
theorem below_drewN {B:Nat}{a b:World}(h:Below B a b)(m:Nat):Below B a (b.drewN m):=⟨h.os,h.tape,h.output,h.size,h.block⟩
theorem NameI.next {w wr:World}{p:Pl.Pay}{cols:List Pl.Col}{i:Nat}{f:Option Nat}{c:Pl.Col}(h:NameI w wr p cols i f)(hd:cols.drop i=c :: cols.drop (i+1))(hc:c.is p.src p.name=false){o:Obj}(m:Nat):NameI w ((wr.alloc o).drewN m) p cols (i+1) f:=by
 obtain ⟨h1,h2,h3⟩:=h
 refine ⟨?_,fun j hj=>Nat.lt_succ_of_lt (h2 j hj),below_drewN (h3.alloc h3.size _) m⟩
 rw [hd,Pl.colGo.eq_def] at h1
 simp only [hc] at h1
 exact h1
theorem NameI.hit {w wr:World}{p:Pl.Pay}{cols:List Pl.Col}{i:Nat}{c:Pl.Col}(h:NameI w wr p cols i none)(hd:cols.drop i=c :: cols.drop (i+1))(hc:c.is p.src p.name=true){o:Obj}(m:Nat):NameI w ((wr.alloc o).drewN m) p cols (i+1) (some i):=by
 obtain ⟨h1,h2,h3⟩:=h
 refine ⟨?_,fun j hj=>by cases hj;omega,below_drewN (h3.alloc h3.size _) m⟩
 rw [hd,Pl.colGo,hc] at h1
 exact h1
theorem NameI.twice {w wr:World}{p:Pl.Pay}{cols:List Pl.Col}{i j:Nat}{c:Pl.Col}(h:NameI w wr p cols i (some j))(hd:cols.drop i=c :: cols.drop (i+1))(hc:c.is p.src p.name=true):Pl.colAt cols p.src p.name=none:=by
 obtain ⟨h1,h2,h3⟩:=h
 rw [hd,Pl.colGo,hc] at h1
 exact h1.symm
theorem cNameS {a1 a2:Nat}{p:Pl.Pay}{l r:Pl.T}(h1:p.op=1):ValS 286 (.node a1 a2 p l r):=by
 intro cols code cb P w v hcl hc ht hl
 obtain ⟨n,vl,vr,rfl,hn,hb,hL,hR⟩:=ht
 have hcb:=hc.lt
 have hnz:n<w.heap.size:=by omega
 have HB:=Z hb
 have HC:=Z hc
 have HL:=Z hl
 obtain ⟨cv,sv,hbx,hcv⟩:∃ cv sv,w.heap[cb]?=some (.cells #[cv,sv] 362)/\RowsW w cb 3 colC cols cv:=by
  obtain ⟨_,_,_,_,_,cv,sv,h5,h6,_⟩:=hc;exact ⟨cv,sv,h5,h6⟩
 have HBX:=Z hbx
 have HCV:=Z hcv
 have hcs:∃ a cap,cv=.slice a cols.length cap:=by obtain ⟨a,cap,h,_⟩:=hcv;exact ⟨a,cap,h⟩
 obtain ⟨ca,cc,rfl⟩:=hcs
 have b0:=bC hbx 0
 simp at b0
 have HE:=Z (fun w' Q i (k:CmpW w' cb Q cols code)=>emitS ⟨1,Pl.nul,i⟩ cols code cb Q w' k (by rw [Pl.sz] at hl;omega))
 have HT:Hid (Pl.tc cols (.node a1 a2 p l r)=match Pl.colAt cols p.src p.name with|some i=>.ok (Pl.typeAt cols i)|none=>.error 2):=by
  unfold Hid
  rw [Pl.tc,if_neg (by omega),if_pos h1]
  cases Pl.colAt cols p.src p.name <;> rfl
 have HG:Hid (Pl.gen cols code.length (.node a1 a2 p l r)=[⟨1,Pl.nul,Pl.idx cols p⟩]):=by
  unfold Hid
  rw [Pl.gen,if_neg (by omega),if_pos h1]
 clear hc hb hL hR hbx hcv hl
 have HPost:Hid (∀ (o:Pl.Out Int) (e:Ending) (w':World),Pl.tc cols (.node a1 a2 p l r)=o->e=.returned (outI o)->KP P w w'->(∃ code',CmpW w' cb P cols code'/\code'.length<=code.length+2/\∀ ty,o=.ok ty->code'=code++[⟨1,Pl.nul,Pl.idx cols p⟩])->PostCV w cb P cols code (.node a1 a2 p l r) e w'):=by
  intro o e w' ho he hk ⟨code',h1,h2,h3⟩
  refine ⟨by rw [ho];exact he,hk,code',h1,by rw [Pl.sz];omega,fun ty hty=>?_⟩
  rw [HG.out]
  exact h3 ty (by rw [<- ho];exact hty)
 have HBad:Hid (Pl.colAt cols p.src p.name=none->∀ w',Below w.heap.size w w'->PostCV w cb P cols code (.node a1 a2 p l r) (.returned (.tuple #[.int .i64 0,.int .i64 2])) w'):=by
  intro hn w' hb
  refine HPost.out (.error 2) _ _ (by rw [HT.out,hn]) rfl (KP.below hb (fun k hk=>(HC.out.1 k hk).1)) ⟨code,(HC.out.below hb).back HC.out.2.1,by omega,fun ty h=>by cases h⟩
 generalize PostCV w cb P cols code (.node a1 a2 p l r)=Post at *
 go_enter Tryz.func286,Tryz.ntmps286
 go_wp2_with fail
 go_loopw [6,14] (fun s6 s14 wr=>∃ (i:Nat) (f:Option Nat),i<=cols.length/\s14=.int .i64 i/\s6=.int .i64 (fI f)/\Hid (NameI w wr p cols i f)) (fun _ a _=>cols.length - (intOf a).toNat)
 case atStart=>exact ⟨0,none,Nat.zero_le _,rfl,rfl,rfl,fun j h=>(by cases h),Below.refl _ _⟩
 case round =>
  obtain ⟨i,f,hi,rfl,rfl,HI⟩:=hrel
  have hbz:=HI.out.2.2.size
  by_cases hlt:i<cols.length
  ·have hci:cols[i]?=some cols[i]:=List.getElem?_eq_getElem hlt
   have HD:Hid (cols.drop i=cols[i] :: cols.drop (i+1)):=List.drop_eq_getElem_cons hlt
   generalize cols[i]=c at *
   obtain ⟨g,cap,he,hg,e0,e1,e2⟩:=(HCV.out.keep (fun k hk=>HI.out.2.2.block k (by omega))).col hci
   cases he
   have hgz:g<wr.heap.size:=by omega
   have hbr:=bB HI.out.2.2 hnz HB.out
   have d4:=bC hbr 4
   have d5:=bC hbr 5
   simp at d4 d5
   have hnr:=lB hbr
   clear hbr
   by_cases q1:c.name=p.name
   ·obtain ⟨qa,qb⟩:=eq_facts q1
    by_cases q2:p.src=[]
    ·obtain ⟨ra,rb⟩:=eq_facts q2
     have Q1:=Z q1
     have Q2:=Z q2
     clear q1 q2
     cases hf:f with
     | none =>
      subst hf
      go_wp2_with fail
      go_quiet (fail)
      go_wp2_with fail
      go_roundw
      case rel=>exact ⟨i+1,some i,by omega,by go_num,rfl,HI.out.hit HD.out (by unfold Pl.Col.is;simp [Q1.out,Q2.out]) nq⟩
      case measure=>simp [intOf];omega
     | some j =>
      subst hf
      have hj:0<=fI (some j):=by simp [fI]
      have HN:=Z (HI.out.twice HD.out (by unfold Pl.Col.is;simp [Q1.out,Q2.out]))
      go_wp2_with fail
      go_quiet (fail)
      go_wp2_with fail
      exact HBad.out HN.out _ (below_drewN (HI.out.2.2.alloc HI.out.2.2.size _) nq)
    ·obtain ⟨ra,rb⟩:=ne_facts q2
     by_cases q3:c.src=p.src
     ·obtain ⟨sa,sb⟩:=eq_facts q3
      have Q1:=Z q1
      have Q2:=Z q2
      have Q3:=Z q3
      clear q1 q2 q3
      cases hf:f with
      | none =>
       subst hf
       go_wp2_with fail
       go_quiet (fail)
       go_wp2_with fail
       go_roundw
       case rel=>exact ⟨i+1,some i,by omega,by go_num,rfl,HI.out.hit HD.out (by unfold Pl.Col.is;simp [Q1.out,Q2.out,Q3.out]) nq⟩
       case measure=>simp [intOf];omega
      | some j =>
       subst hf
       have hj:0<=fI (some j):=by simp [fI]
       have HN:=Z (HI.out.twice HD.out (by unfold Pl.Col.is;simp [Q1.out,Q2.out,Q3.out]))
       go_wp2_with fail
       go_quiet (fail)
       go_wp2_with fail
       exact HBad.out HN.out _ (below_drewN (HI.out.2.2.alloc HI.out.2.2.size _) nq)
     ·obtain ⟨sa,sb⟩:=ne_facts q3
      have Q1:=Z q1
      have Q2:=Z q2
      have Q3:=Z q3
      clear q1 q2 q3
      go_wp2_with fail
      go_quiet (fail)
      go_wp2_with fail
      go_roundw
      case rel=>exact ⟨i+1,f,by omega,by go_num,rfl,HI.out.next HD.out (by unfold Pl.Col.is;simp [Q1.out,Q2.out,Q3.out]) nq⟩
      case measure=>simp [intOf];omega
   ·obtain ⟨qa,qb⟩:=ne_facts q1
    have Q1:=Z q1
    clear q1
    go_wp2_with fail
    go_quiet (fail)
    go_wp2_with fail
    go_roundw
    case rel=>exact ⟨i+1,f,by omega,by go_num,rfl,HI.out.next HD.out (by unfold Pl.Col.is;simp [Q1.out]) nq⟩
    case measure=>simp [intOf];omega
  ·have hfin:f=Pl.colAt cols p.src p.name:=by
    have:=HI.out.1
    rw [List.drop_eq_nil_of_le (by omega)] at this
    exact this
   cases hf:f with
   | none =>
    subst hf
    have HN:=Z hfin.symm
    clear hfin
    have hj:fI none<0:=by simp [fI]
    go_wp2_with fail
    exact HBad.out HN.out _ HI.out.2.2
   | some j =>
    subst hf
    have HN:=Z hfin.symm
    clear hfin
    have hj:¬ fI (some j)<0:=by simp [fI]
    have hjl:j<cols.length:=by have:=HI.out.2.1 j rfl;omega
    have HI2:=Z (HI.out.2.2)
    have hcj:cols[j]?=some cols[j]:=List.getElem?_eq_getElem hjl
    have HTy:Hid (Pl.typeAt cols j=cols[j].type):=by unfold Hid Pl.typeAt;rw [hcj]
    generalize cols[j]=c at *
    obtain ⟨g,cap,he,hg,_,_,_⟩:=HCV.out.col hcj
    cases he
    have HEm:=Z (U HE wr _ j (HC.out.below HI2.out))
    unfold insV at HEm
    simp only [Pl.nul] at HEm
    simp only [fI] at hj ⊢
    go_wp2_with fail
    refine (U HEm).mono ?_
    rintro e w2 ⟨rfl,hc2,hk2⟩
    have hK:KP P wr w2:=hk2.mono (fun k hk=>.inl hk)
    have HC2:=Z (hc2.back HC.out.2.1)
    have HK2:=Z ((KP.below HI2.out (fun k hk=>(HC.out.1 k hk).1)).trans hK)
    obtain ⟨cv2,sv2,hx2,hcv2⟩:∃ cv sv,w2.heap[cb]?=some (.cells #[cv,sv] 362)/\RowsW w2 cb 3 colC cols cv:=by
     obtain ⟨_,_,_,_,_,cv,sv,h5,h6,_⟩:=HC2.out;exact ⟨cv,sv,h5,h6⟩
    obtain ⟨g2,cap2,rfl,hg2,_,_,f2⟩:=hcv2.col hcj
    have x0:=bC hx2 0
    simp at x0
    have hcb2:cb<w2.heap.size:=lB hx2
    have hg2z:g2<w2.heap.size:=by omega
    clear hc2 hk2 hK hx2 hcv2
    go_wp2_with fail
    refine HPost.out (.ok c.type) _ _ (by rw [HT.out,HN.out,<- HTy.out]) rfl HK2.out ⟨_,HC2.out,by simp,fun ty _=>?_⟩
    have:Pl.idx cols p=j:=by unfold Pl.idx;rw [HN.out];rfl
    rw [this]
    rfl
theorem cLitS {a1 a2:Nat}{p:Pl.Pay}{l r:Pl.T}(h0:p.op=0):ValS 251 (.node a1 a2 p l r):=by
 intro cols code cb P w v hcl hc ht hl
 obtain ⟨n,vl,vr,rfl,hn,hb,hL,hR⟩:=ht
 have hcb:=hc.lt
 have hnz:n<w.heap.size:=by omega
 have HP:=Z hc.2.1
 have HB:=Z hb
 have c0:=bC hb 0
 have c1:=bC hb 1
 have c2:=bC hb 2
 have c3:=bC hb 3
 simp at c0 c1 c2 c3
 rw [h0] at c0
 have HT:Hid (Pl.tc cols (.node a1 a2 p l r)=.ok p.kind):=by unfold Hid;rw [Pl.tc,if_pos h0]
 have HG:Hid (Pl.gen cols code.length (.node a1 a2 p l r)=[⟨0,Pl.litOf p,0⟩]):=by unfold Hid;rw [Pl.gen,if_pos h0]
 have HE:=Z (emitS ⟨0,Pl.litOf p,0⟩ cols code cb P w hc (by rw [Pl.sz] at hl;omega))
 unfold insV Pl.litOf at HE
 clear hc hb hL hR
 unfold PostCV
 rw [HT.out]
 simp only [outI]
 go_enter Tryz.func251,Tryz.ntmps251
 go_wp2_with fail
 refine (U HE).mono ?_
 rintro e w1 ⟨rfl,hc1,hk1⟩
 have HC1:=Z hc1
 have HK1:=Z hk1
 have hb1:=hk1.blk (HP.out n hn) HB.out
 have d1:=bC hb1 1
 simp at d1
 have hz1:=lB hb1
 clear hc1 hk1 hb1
 go_wp2_with fail
 exact bodyPost_ret (by simp [results,Tryz.results251,go_sem]) rfl ⟨rfl,HK1.out,_,HC1.out,by rw [Pl.sz];simp;omega,fun ty h=>by rw [HG.out];rfl⟩
theorem postCV_form {w:World}{cb:Nat}{P:Nat->Prop}{cols:List Pl.Col}{code:List Pl.Ins}{t:Pl.T}:∃ a b:Int,∀ e w',PostCV w cb P cols code t e w' ↔ e=.returned (.tuple #[.int .i64 a,.int .i64 b])/\PostCV w cb P cols code t (.returned (.tuple #[.int .i64 a,.int .i64 b])) w':=by
 obtain ⟨a,b,h⟩:=outI_form (Pl.tc cols t)
 refine ⟨a,b,fun e w'=>⟨fun hp=>?_,fun hp=>?_⟩⟩
 ·have he:=hp.1
  rw [h] at he
  subst he
  exact ⟨rfl,hp⟩
 ·rw [hp.1];exact hp.2
theorem cValueS:∀ {t:Pl.T},Pl.Wf t->ValS 251 t
 | .nil,hw=>absurd hw id
 | .node a1 a2 p l r,hw=>by
  obtain ⟨h18,_,hwr,hwl⟩:=hw
  by_cases h0:p.op=0
  ·exact cLitS h0
  intro cols code cb P w v hcl hc ht hl
  obtain ⟨n,hvn,hb⟩:∃ n,v=.pointer (some ⟨n,0,none⟩)/\n<cb/\w.cell? ⟨n,0,none⟩=some (.int .i64 p.op):=by
   obtain ⟨n,vl,vr,rfl,hn,hb,_⟩:=ht
   exact ⟨n,rfl,hn,by have:=bC hb 0;simp at this;exact this⟩
  obtain ⟨hn,c0⟩:=hb
  have hcb:=hc.lt
  have hnz:n<w.heap.size:=by omega
  obtain ⟨xa,xb,hform⟩:=postCV_form (w:=w) (cb:=cb) (P:=P) (cols:=cols) (code:=code) (t:=.node a1 a2 p l r)
  by_cases h1:p.op=1
  ·have HX:=Z (cNameS (a1:=a1) (a2:=a2) (l:=l) (r:=r) h1 cols code cb P w v hcl hc ht hl)
   subst hvn
   rw [h1] at c0
   generalize PostCV w cb P cols code (.node a1 a2 p l r)=Post at *
   have HF:=Z hform
   clear hform hc ht
   go_enter Tryz.func251,Tryz.ntmps251
   go_wp2_with fail
   refine (U HX).mono ?_
   intro e w1 hp
   obtain ⟨rfl,hp1⟩:=(HF.out e w1).1 hp
   have HP1:=Z hp1
   clear hp hp1
   go_wp2_with fail
   exact HP1.out
  have hopI:∀ k:Nat,p.op≠k->(((p.op:Nat):Int) == ((k:Nat):Int))=false:=fun k hk=>by simp;omega
  have g0:=hopI 0 h0
  have g1:=hopI 1 h1
  have IHl:=cValueS (hwl (by omega))
  by_cases h17:p.op=17
  ·have IHr:=cValueS (hwr (by omega))
   have HX:=Z (cLogicS (a1:=a1) (a2:=a2) (p:=p) (by omega) h18 IHl IHr cols code cb P w v hcl hc ht hl)
   rw [show p.op - 15=2 by omega] at HX
   subst hvn
   rw [h17] at c0
   generalize PostCV w cb P cols code (.node a1 a2 p l r)=Post at *
   have HF:=Z hform
   clear hform hc ht hopI g0 g1 IHl IHr
   go_enter Tryz.func251,Tryz.ntmps251
   go_wp2_with fail
   refine (U HX).mono ?_
   intro e w1 hp
   obtain ⟨rfl,hp1⟩:=(HF.out e w1).1 hp
   have HP1:=Z hp1
   clear hp hp1
   go_wp2_with fail
   exact HP1.out
  by_cases h18':p.op=18
  ·have IHr:=cValueS (hwr (by omega))
   have HX:=Z (cLogicS (a1:=a1) (a2:=a2) (p:=p) (by omega) h18 IHl IHr cols code cb P w v hcl hc ht hl)
   rw [show p.op - 15=3 by omega] at HX
   subst hvn
   rw [h18'] at c0
   generalize PostCV w cb P cols code (.node a1 a2 p l r)=Post at *
   have HF:=Z hform
   clear hform hc ht hopI g0 g1 IHl IHr
   go_enter Tryz.func251,Tryz.ntmps251
   go_wp2_with fail
   refine (U HX).mono ?_
   intro e w1 hp
   obtain ⟨rfl,hp1⟩:=(HF.out e w1).1 hp
   have HP1:=Z hp1
   clear hp hp1
   go_wp2_with fail
   exact HP1.out
  by_cases h5:p.op<=5
  ·have HX:=Z (cOneS (a1:=a1) (a2:=a2) (p:=p) (r:=r) (by omega) h5 IHl cols code cb P w v hcl hc ht hl)
   subst hvn
   generalize PostCV w cb P cols code (.node a1 a2 p l r)=Post at *
   have HF:=Z hform
   have hop:p.op=2\/p.op=3\/p.op=4\/p.op=5:=by omega
   clear hform hc ht hopI g0 g1 IHl
   rcases hop with hop|hop|hop|hop
   all_goals
    rw [hop] at c0
    go_enter Tryz.func251,Tryz.ntmps251
    go_wp2_with fail
    refine (U HX).mono ?_
    intro e w1 hp
    obtain ⟨rfl,hp1⟩:=(HF.out e w1).1 hp
    have HP1:=Z hp1
    clear hp hp1
    go_wp2_with fail
    exact HP1.out
  ·have IHr:=cValueS (hwr (by omega))
   have HX:=Z (cTwoS (a1:=a1) (a2:=a2) (p:=p) (by omega) (by omega) IHl IHr cols code cb P w v hcl hc ht hl)
   have g17:=hopI 17 h17
   have g18:=hopI 18 h18'
   have g2:=hopI 2 (by omega)
   have g3:=hopI 3 (by omega)
   have g4:=hopI 4 (by omega)
   have g5:=hopI 5 (by omega)
   subst hvn
   generalize PostCV w cb P cols code (.node a1 a2 p l r)=Post at *
   have HF:=Z hform
   clear hform hc ht hopI IHl IHr
   go_enter Tryz.func251,Tryz.ntmps251
   go_wp2_with fail
   refine (U HX).mono ?_
   intro e w1 hp
   obtain ⟨rfl,hp1⟩:=(HF.out e w1).1 hp
   have HP1:=Z hp1
   clear hp hp1
   go_wp2_with fail
   exact HP1.out
theorem flat_at {α:Type}(f:α->List Value)(n:Nat)(hf:∀ x,(f x).length=n):∀ (xs:List α)(i j:Nat)(x:α)(u:Value),xs[i]?=some x->(f x)[j]?=some u->(xs.flatMap f)[i*n+j]?=some u
 | [],i,j,x,u,h,_=>by simp at h
 | y :: ys,i,j,x,u,h,hu=>by
  rw [List.flatMap_cons]
  cases i with
  | zero =>
   simp at h;subst h
   have:j<(f y).length:=by
    rcases Nat.lt_or_ge j (f y).length with h|h
    ·exact h
    ·rw [List.getElem?_eq_none h] at hu;cases hu
   rw [Nat.zero_mul,Nat.zero_add,List.getElem?_append_left this];exact hu
  | succ i =>
   simp at h
   have:=flat_at f n hf ys i j x u h hu
   rw [List.getElem?_append_right (by rw [hf,Nat.succ_mul];omega),hf]
   rw [show (i+1)*n+j - n=i*n+j by rw [Nat.succ_mul];omega]
   exact this
theorem own_rows {α:Type}{w:World}{base n hi:Nat}{e:TypeId}{f:α->List Value}(hf:∀ x,(f x).length=n){xs:List α}{v:Value}(h:w.ownsRow base e n v xs.length (xs.flatMap f))(hh:w.heap.size<=hi):RowsW w hi n f xs v:=by
 rcases h.2 with ⟨rfl,h0⟩|⟨g,cap,cur,rfl,hb,hg,hc,hm,hs,ht⟩
 ·exact ⟨none,0,by rw [h0],fun hn=>absurd (List.length_eq_zero_iff.1 h0) hn⟩
 ·refine ⟨_,cap,rfl,fun hn=>⟨g,rfl,by have:=lB hg;omega,fun i x hx j u hu=>?_⟩⟩
  have h1:=flat_at f n hf xs i j x u hx hu
  rw [<- ht] at h1
  have h2:cur[i*n+j]?=some u:=by
   rw [List.getElem?_take] at h1
   split at h1
   ·simpa using h1
   ·cases h1
  rw [bC hg];exact h2
def RowsP {α:Type}(w:World)(Q:Nat->Prop)(n:Nat)(f:α->List Value)(xs:List α)(v:Value):Prop :=
 ∃ a cap,v=.slice a xs.length cap/\(xs≠[]->∃ g,a=some ⟨g,0,none⟩/\Q g/\∀ i c,xs[i]?=some c->∀ j u,(f c)[j]?=some u->w.cell? ⟨g,i*n+j,none⟩=some u)
theorem RowsP.keep {α:Type}{w w':World}{Q:Nat->Prop}{n:Nat}{f:α->List Value}{xs:List α}{v:Value}(h:RowsP w Q n f xs v)(hk:∀ k,Q k->w'.heap[k]?=w.heap[k]?):RowsP w' Q n f xs v:=by
 obtain ⟨a,cap,rfl,h2⟩:=h
 refine ⟨a,cap,rfl,fun hn=>?_⟩
 obtain ⟨g,rfl,hg,h3⟩:=h2 hn
 exact ⟨g,rfl,hg,fun i c hc j u hu=>(World.cell?_of_block (hk g hg)).trans (h3 i c hc j u hu)⟩
theorem RowsP.mono {α:Type}{w:World}{Q R:Nat->Prop}{n:Nat}{f:α->List Value}{xs:List α}{v:Value}(h:RowsP w Q n f xs v)(hk:∀ k,Q k->R k):RowsP w R n f xs v:=by
 obtain ⟨a,cap,rfl,h2⟩:=h
 refine ⟨a,cap,rfl,fun hn=>?_⟩
 obtain ⟨g,rfl,hg,h3⟩:=h2 hn
 exact ⟨g,rfl,hk g hg,h3⟩
theorem RowsP.rows {α:Type}{w:World}{Q:Nat->Prop}{hi n:Nat}{f:α->List Value}{xs:List α}{v:Value}(h:RowsP w Q n f xs v)(hk:∀ k,Q k->k<hi):RowsW w hi n f xs v:=h.mono hk
theorem own_rowsP {α:Type}{w:World}{base n:Nat}{e:TypeId}{f:α->List Value}(hf:∀ x,(f x).length=n){xs:List α}{v:Value}(h:w.ownsRow base e n v xs.length (xs.flatMap f)):RowsP w (fun k=>base<=k/\k<w.heap.size/\v.ownBlock=some k) n f xs v:=by
 rcases h.2 with ⟨rfl,h0⟩|⟨g,cap,cur,rfl,hb,hg,hc,hm,hs,ht⟩
 ·exact ⟨none,0,by rw [h0],fun hn=>absurd (List.length_eq_zero_iff.1 h0) hn⟩
 ·refine ⟨_,cap,rfl,fun hn=>⟨g,rfl,⟨hb,lB hg,rfl⟩,fun i x hx j u hu=>?_⟩⟩
  have h1:=flat_at f n hf xs i j x u hx hu
  rw [<- ht] at h1
  have h2:cur[i*n+j]?=some u:=by
   rw [List.getElem?_take] at h1
   split at h1
   ·simpa using h1
   ·cases h1
  rw [bC hg];exact h2
theorem CmpW.prog {w:World}{cb:Nat}{P:Nat->Prop}{cols:List Pl.Col}{code:List Pl.Ins}(h:CmpW w cb P cols code):∃ cv a c,w.heap[cb]?=some (.cells #[cv,.slice a code.length c] 362)/\RowsP w (fun k=>cb+1<=k/\k<w.heap.size) 5 insC code (.slice a code.length c):=by
 obtain ⟨_,_,_,_,_,cv,v,h5,_,h6,_⟩:=h
 have hp:RowsP w (fun k=>cb+1<=k/\k<w.heap.size) 5 insC code v:=(own_rowsP (f:=insC) (fun x=>rfl) h6).mono (fun k hk=>⟨hk.1,hk.2.1⟩)
 rcases h6.2 with ⟨rfl,h0⟩|⟨g,cap,cur,rfl,_⟩
 ·exact ⟨cv,none,0,by rw [h0];exact h5,by rw [h0];exact hp⟩
 ·exact ⟨cv,_,_,h5,hp⟩
theorem RowsW.more {α:Type}{w:World}{hi hi' n:Nat}{f:α->List Value}{xs:List α}{v:Value}(h:RowsW w hi n f xs v)(hh:hi<=hi'):RowsW w hi' n f xs v:=by
 obtain ⟨a,cap,rfl,h2⟩:=h
 refine ⟨a,cap,rfl,fun hn=>?_⟩
 obtain ⟨g,rfl,hg,h3⟩:=h2 hn
 exact ⟨g,rfl,by omega,h3⟩
def ProgW (w:World)(hi:Nat)(cols:List Pl.Col)(t:Pl.T)(cv:Value):Prop:=RowsW w hi 5 insC (Pl.gen cols 0 t) cv
def newP (a b:Nat):Nat->Prop:=fun k=>a<=k/\k<b
def ProgP (w:World)(Q:Nat->Prop)(cols:List Pl.Col)(t:Pl.T)(cv:Value):Prop:=RowsP w Q 5 insC (Pl.gen cols 0 t) cv
theorem ProgP.prog {w:World}{Q:Nat->Prop}{hi:Nat}{cols:List Pl.Col}{t:Pl.T}{cv:Value}(h:ProgP w Q cols t cv)(hk:∀ k,Q k->k<hi):ProgW w hi cols t cv:=RowsP.rows h hk
theorem ProgP.slice {w:World}{Q:Nat->Prop}{cols:List Pl.Col}{t:Pl.T}{cv:Value}(h:ProgP w Q cols t cv):∃ a n c,cv=.slice a n c:=by
 obtain ⟨a,c,h,_⟩:=h;exact ⟨a,_,c,h⟩
structure CompIn (w:World)(t:Pl.T)(v:Value)(cols:List Pl.Col)(cv:Value):Prop where
 rules:RulesAt w
 glob : 9<w.heap.size
 tree:TrW w w.heap.size t v
 ok:Pl.okT t
 colv:RowsW w w.heap.size 3 colC cols cv
 len:cols.length<=1000
theorem CompIn.below {w w':World}{t:Pl.T}{v:Value}{cols:List Pl.Col}{cv:Value}(h:CompIn w t v cols cv)(hb:Below w.heap.size w w'):CompIn w' t v cols cv :=
 ⟨h.rules.keep (hb.block _ h.glob),Nat.lt_of_lt_of_le h.glob hb.size,(h.tree.keep (fun k hk=>hb.block k hk)).more hb.size,h.ok,(h.colv.keep (fun k hk=>hb.block k hk)).more hb.size,h.len⟩
def PostComp (w:World)(t:Pl.T)(cols:List Pl.Col)(e:Ending)(w':World):Prop:=Below w.heap.size w w' /\
 ((∃ er,Pl.tc cols t=.error er/\e=.returned (.tuple #[.agg #[.slice none 0 0],.int .i64 0,.int .i64 (er:Nat)])) \/
  (∃ ty cv,Pl.tc cols t=.ok ty/\e=.returned (.tuple #[.agg #[cv],.int .i64 ty,.int .i64 0])/\ProgP w' (newP w.heap.size w'.heap.size) cols t cv))
theorem compileM (t:Pl.T)(cols:List Pl.Col)(v cv:Value)(w:World)(h:CompIn w t v cols cv):Calls Tryz.prog 216 #[v,cv] w (PostComp w t cols):=by
 obtain ⟨h1,h2,h3,h4,h5,h6⟩:=h
 obtain ⟨ca,cc,rfl⟩:∃ a c,cv=.slice a cols.length c:=by obtain ⟨a,c,h,_⟩:=h5;exact ⟨a,c,h⟩
 have hB:Below w.heap.size w ((w.alloc (.cells #[.slice none 0 0] 204)).alloc (.cells #[.slice ca cols.length cc,.slice none 0 0] 362)):=((Below.refl w.heap.size w).alloc (Nat.le_refl _) _).alloc (by simp) _
 have hC:CmpW ((w.alloc (.cells #[.slice none 0 0] 204)).alloc (.cells #[.slice ca cols.length cc,.slice none 0 0] 362)) (w.heap.size+1) (fun k=>k<w.heap.size+1) cols []:=by
  refine ⟨fun k hk=>⟨by simp;omega,by omega⟩,fun k hk=>hk,by simp,by omega,h1.keep (hB.block _ h2),_,.slice none 0 0,blk_new' _ _ _ (by simp),?_,World.ownsRow_nil _ _ _ _,fun k hk=>by cases hk⟩
  exact (h5.keep (fun k hk=>hB.block k hk)).more (by omega)
 have HV:=Z (cValueS h4.1 cols [] (w.heap.size+1) (fun k=>k<w.heap.size+1) _ v h6 hC ((h3.keep (fun k hk=>hB.block k hk)).more (by omega)) (by have:=h4.2.2;simp;omega))
 have hr:((w.alloc (.cells #[.slice none 0 0] 204)).alloc (.cells #[.slice ca cols.length cc,.slice none 0 0] 362)).heap[w.heap.size]?=some (.cells #[.slice none 0 0] 204):=bA (blk_new _ _) _
 have HR:=Z hr
 have HB:=Z hB
 clear h1 h2 h3 h4 h5 h6 hC hr hB
 obtain ⟨xa,xb,hxy⟩:=outI_form (Pl.tc cols t)
 unfold PostCV at HV
 rw [hxy] at HV
 go_enter Tryz.func216,Tryz.ntmps216
 go_wp2_with fail
 refine (U HV).mono ?_
 rintro e w1 ⟨rfl,hk1,code,hc1,hlen,hcode⟩
 have HK1:=Z hk1
 have HC1:=Z hc1
 have HCo:=Z hcode
 have hr1:=hk1.blk (by omega) HR.out
 have r0:=bC hr1 0
 have rf:=bF hr1 0
 simp at r0
 have hz:=lB hr1
 obtain ⟨cv1,sa,sc,hx1,hpr⟩:=hc1.prog
 have HPr:=Z hpr
 have HK2:Hid (∀ u,Below w.heap.size w (w1.setCell ⟨w.heap.size,0,none⟩ u)):=fun u=>by
  have hk:Below w.heap.size _ w1:=⟨hk1.os,hk1.tape,hk1.output,hk1.size,fun k hk=>hk1.block k (by omega)⟩
  exact (HB.out.trans hk).setCell (Nat.le_refl _) _
 clear hpr
 have x1:=bC hx1 1
 simp at x1
 have hy1:=lB hx1
 have HR1:=Z hr1
 clear hk1 hc1 hcode hr1 HV HR hx1
 cases htc:Pl.tc cols t with
 | error er =>
  rw [htc] at hxy
  simp [outI] at hxy
  obtain ⟨rfl,rfl⟩:=hxy
  have her:((er:Int) != 0)=true:=by have:=Pl.tc_err htc;simp;omega
  go_wp2_with fail
  refine bodyPost_ret (v:=.tuple #[.agg #[.slice none 0 0],.int .i64 0,.int .i64 (er:Nat)]) ?_ rfl ⟨HK2.out _,.inl ⟨er,htc,rfl⟩⟩
  have r1:=bC (bS HR1.out 0 (.slice none 0 0)) 0
  simp at r1
  simp [results,Tryz.results216,go_sem,r1]
 | ok ty =>
  rw [htc] at hxy
  simp [outI] at hxy
  obtain ⟨rfl,rfl⟩:=hxy
  go_wp2_with fail
  refine bodyPost_ret (v:=.tuple #[.agg #[.slice sa code.length sc],.int .i64 ty,.int .i64 0]) ?_ rfl ⟨HK2.out _,.inr ⟨ty,_,htc,rfl,?_⟩⟩
  ·have r1:=bC (bS HR1.out 0 (.slice sa code.length sc)) 0
   simp at r1
   simp [results,Tryz.results216,go_sem,r1]
  ·have h0:=HCo.out ty htc
   simp at h0
   unfold ProgP
   rw [<- h0]
   exact (HPr.out.keep (fun k hk=>Below.heap_setCell _ _ _ _ (show k≠w.heap.size by omega))).mono (fun k hk=>⟨by omega,by rw [size_set];exact hk.2⟩)
def PostCompAs (w:World)(t:Pl.T)(cols:List Pl.Col)(want:Int)(e:Ending)(w':World):Prop:=Below w.heap.size w w' /\
 ((∃ er,Pl.tcAs cols t want=some er/\e=.returned (.tuple #[.agg #[.slice none 0 0],.int .i64 (er:Nat)])) \/
  (∃ cv,Pl.tcAs cols t want=none/\e=.returned (.tuple #[.agg #[cv],.int .i64 0])/\ProgP w' (newP w.heap.size w'.heap.size) cols t cv))
theorem ProgW.slice {w:World}{hi:Nat}{cols:List Pl.Col}{t:Pl.T}{cv:Value}(h:ProgW w hi cols t cv):∃ a n c,cv=.slice a n c:=by
 obtain ⟨a,c,h,_⟩:=h;exact ⟨a,_,c,h⟩
theorem ProgW.below {w w':World}{cols:List Pl.Col}{t:Pl.T}{cv:Value}(h:ProgW w w.heap.size cols t cv)(hb:Below w.heap.size w w'):ProgW w' w'.heap.size cols t cv:=(RowsW.keep h (fun k hk=>hb.block k hk)).more hb.size
theorem compileAsM (t:Pl.T)(cols:List Pl.Col)(want:Int)(v cv:Value)(w:World)(h:CompIn w t v cols cv):Calls Tryz.prog 161 #[v,cv,.int .i64 want] w (PostCompAs w t cols want):=by
 have hB:Below w.heap.size w (w.alloc (.cells #[.slice none 0 0] 204)):=(Below.refl w.heap.size w).alloc (Nat.le_refl _) _
 have HV:=Z (compileM t cols v cv _ (h.below hB))
 have HR:Hid ((w.alloc (.cells #[.slice none 0 0] 204)).heap[w.heap.size]?=some (.cells #[.slice none 0 0] 204)):=blk_new _ _
 have HB:=Z hB
 have HL:=Z alikeM
 clear h hB
 go_enter Tryz.func161,Tryz.ntmps161
 go_wp2_with fail
 refine (U HV).mono ?_
 rintro e w1 ⟨hb1,hp1⟩
 have HB1:=Z (HB.out.trans (hb1.mono (by simp)))
 have hr1:=bB hb1 (by simp) HR.out
 have HR1:=Z hr1
 have hz:=lB hr1
 have rf:=bF hr1 0
 have r0:=bC hr1 0
 simp at r0
 have HSet:Hid (∀ (o:Obj) u,Below w.heap.size w ((w1.setCell ⟨w.heap.size,0,none⟩ u).alloc o)):=fun o u=>((HB1.out.setCell (p:=⟨w.heap.size,0,none⟩) (Nat.le_refl _) u).alloc (by rw [size_set];exact HB1.out.size) o)
 have HR2:Hid (∀ (o:Obj) u,((w1.setCell ⟨w.heap.size,0,none⟩ u).alloc o).heap[w.heap.size]?=some (.cells #[u] 204)):=fun o u=>by
  have:=bA (bS HR1.out 0 u) o
  simpa using this
 rcases hp1 with ⟨er,htc,rfl⟩|⟨ty,cv1,htc,rfl,hp⟩
 ·have her:((er:Int) != 0)=true:=by have:=Pl.tc_err htc;simp;omega
  have her2:((er:Int) == 0)=false:=by have:=Pl.tc_err htc;simp;omega
  have HX:Hid (Pl.tcAs cols t want=some er):=by unfold Hid Pl.tcAs;rw [htc]
  clear hb1 hr1 HV htc
  go_wp2_with fail
  refine bodyPost_ret (v:=.tuple #[.agg #[.slice none 0 0],.int .i64 (er:Nat)]) ?_ rfl ⟨HSet.out _ _,.inl ⟨er,HX.out,rfl⟩⟩
  have r1:=bC (HR2.out (.cells #[.slice none 0 0] 204) (.slice none 0 0)) 0
  simp at r1
  simp [results,Tryz.results161,go_sem,r1]
 ·obtain ⟨sa,sn,sc,rfl⟩:=hp.slice
  have HPr:=Z hp
  clear hb1 hr1 HV hp
  cases hal:Pl.alike ty want with
  | false =>
   have HX:Hid (Pl.tcAs cols t want=some 3):=by unfold Hid Pl.tcAs;rw [htc];simp [hal]
   clear htc
   go_wp2_with (go_at_call 217;refine (U HL _ _ _).mono ?_;rintro e w2 ⟨rfl,rfl⟩)
   refine bodyPost_ret (v:=.tuple #[.agg #[.slice none 0 0],.int .i64 3]) ?_ rfl ⟨HSet.out _ _,.inl ⟨3,HX.out,rfl⟩⟩
   have r1:=bC (HR2.out (.cells #[.slice sa sn sc] 204) (.slice none 0 0)) 0
   simp at r1
   simp [results,Tryz.results161,go_sem,r1]
  | true =>
   have HX:Hid (Pl.tcAs cols t want=none):=by unfold Hid Pl.tcAs;rw [htc];simp [hal]
   clear htc
   go_wp2_with (go_at_call 217;refine (U HL _ _ _).mono ?_;rintro e w2 ⟨rfl,rfl⟩)
   refine bodyPost_ret (v:=.tuple #[.agg #[.slice sa sn sc],.int .i64 0]) ?_ rfl ⟨HSet.out _ _,.inr ⟨_,HX.out,rfl,?_⟩⟩
   ·have r1:=bC (HR2.out (.cells #[.slice sa sn sc] 204) (.slice sa sn sc)) 0
    simp at r1
    simp [results,Tryz.results161,go_sem,r1]
   ·refine (HPr.out.keep (fun k hk=>?_)).mono (fun k hk=>⟨by have:=hk.1;simp at this;omega,by have:=hk.2;simp [size_set];omega⟩)
    have h2:=hk.2
    rw [Below.heap_alloc _ _ _ (by rw [size_set];omega),Below.heap_setCell _ _ _ _ (show k≠w.heap.size by have:=hk.1;simp at this;omega)]
end Go.Proofs.YtojdpjpldokjmaaGreatDoor
namespace Go.Proofs.YtojdpjpldokjmaaGreatDoor.Pl
theorem gen_ins (cols:List Col):∀ (t:T)(b:Nat),Wf t->WfK t->∀ c ∈ gen cols b t,okV c.v/\c.kind<=20
 | .nil,_,h,_,_,_=>absurd h id
 | .node _ _ p l r,b,hw,hk,c,hc=>by
  obtain ⟨h18,_,hwr,hwl⟩:=hw
  obtain ⟨k0,kl,kr⟩:=hk
  have hop:∀ (k q:Nat),k<=20->okV (⟨k,nul,q⟩:Ins).v/\(⟨k,nul,q⟩:Ins).kind<=20:=fun k q h=>⟨ok_nul,h⟩
  unfold gen at hc
  split at hc
  ·rename_i h0
   simp at hc;subst hc
   refine ⟨?_,by simp⟩
   rcases k0 h0 with h|h|h|h
   ·exact .inl h
   ·exact .inr (.inl ⟨h.1,h.2.1,by show _<=p.n;omega,h.2.2.2⟩)
   ·exact .inr (.inr (.inl h))
   ·exact .inr (.inr (.inr h))
  split at hc
  ·simp at hc;subst hc;exact hop _ _ (by omega)
  split at hc
  ·rcases List.mem_append.1 hc with hc|hc
   ·exact gen_ins cols l b (hwl (by omega)) kl c hc
   ·simp at hc;subst hc;exact hop _ _ (by omega)
  split at hc
  ·rcases List.mem_append.1 hc with hc|hc
   ·exact gen_ins cols l b (hwl (by omega)) kl c hc
   rcases List.mem_append.1 hc with hc|hc
   ·exact gen_ins cols r _ (hwr (by omega)) kr c hc
   ·simp at hc;subst hc;exact hop _ _ (by omega)
  ·rcases List.mem_append.1 hc with hc|hc
   ·exact gen_ins cols l b (hwl (by omega)) kl c hc
   rcases List.mem_cons.1 hc with rfl|hc
   ·exact hop _ _ (by omega)
   rcases List.mem_append.1 hc with hc|hc
   ·exact gen_ins cols r _ (hwr (by omega)) kr c hc
   ·simp at hc;subst hc;exact hop _ _ (by omega)
def Fine (cols:List Col)(t:T):Prop:=okT t/\∃ ty,tc cols t=.ok ty
def FineRow (cols:List Col)(row:List V):Prop:=okRow row/\cols.length<=row.length
end Go.Proofs.YtojdpjpldokjmaaGreatDoor.Pl
namespace Go.Proofs.YtojdpjpldokjmaaGreatDoor
open Go.RowKit Go.Deep
set_option linter.unusedSimpArgs false
set_option linter.unusedVariables false
theorem runT (X:MachLib){cols:List Pl.Col}{t:Pl.T}{row:List Pl.V}{cv rv:Value}{w:World}(hp:ProgW w w.heap.size cols t cv)(hr:RowsW w w.heap.size 3 vC row rv)(hf:Pl.Fine cols t)(hrow:Pl.FineRow cols row) :
 Calls Tryz.prog 162 #[.agg #[cv],rv] w fun e w'=>e=.returned (outV (Pl.ev cols row t))/\Below w.heap.size w w':=by
 have hl:=Pl.gen_len cols t 0
 have hz:=hf.1.2.2
 exact runM X (Pl.gen cols 0 t) row (Pl.gen_ins cols t 0 hf.1.1 hf.1.2.1) (by omega) hrow.1 ((Pl.gen cols 0 t).length+1) (by omega) (Pl.ev cols row t) (Pl.gen_whole cols row t hf.1.1 hf.2 hrow.2) cv rv w hp hr
theorem ev_err {cols:List Pl.Col}{row:List Pl.V}:∀ {t:Pl.T}{e:Nat},Pl.ev cols row t=.error e->e=4\/e=5
 | .nil,e,h=>by simp [Pl.ev] at h
 | .node _ _ p l r,e,h=>by
  unfold Pl.ev at h
  split at h
  ·cases h
  split at h
  ·cases h
  ·cases hl:Pl.ev cols row l with
   | error e'=>rw [hl] at h;cases h;exact ev_err hl
   | ok a =>
    rw [hl] at h
    simp only at h
    split at h
    ·exact Pl.ap1_err h
    split at h
    ·cases h
    ·cases hr:Pl.ev cols row r with
     | error e'=>rw [hr] at h;cases h;exact ev_err hr
     | ok b=>rw [hr] at h;exact Pl.ap2_err h
def ProgsW (w:World)(hi:Nat)(cols:List Pl.Col)(ps:List (Pl.T × Value))(v:Value):Prop:=RowsW w hi 1 (fun p=>[p.2]) ps v/\∀ p ∈ ps,ProgW w hi cols p.1 p.2
theorem RowsW.below {α:Type}{w w':World}{n:Nat}{f:α->List Value}{xs:List α}{v:Value}(h:RowsW w w.heap.size n f xs v)(hb:Below w.heap.size w w'):RowsW w' w'.heap.size n f xs v:=(h.keep (fun k hk=>hb.block k hk)).more hb.size
theorem RowsW.at1 {α:Type}{w:World}{hi:Nat}{f:α->Value}{xs:List α}{v:Value}(h:RowsW w hi 1 (fun x=>[f x]) xs v){i:Nat}{c:α}(hc:xs[i]?=some c):∃ g cap,v=.slice (some ⟨g,0,none⟩) xs.length cap/\g<hi/\w.cell? ⟨g,i,none⟩=some (f c):=by
 obtain ⟨a,cap,rfl,h2⟩:=h
 obtain ⟨g,rfl,hg,h3⟩:=h2 (by rintro rfl;simp at hc)
 have:=h3 i c hc 0 _ rfl
 rw [Nat.mul_one,Nat.add_zero] at this
 exact ⟨g,cap,rfl,hg,this⟩
theorem RowsW.slice {α:Type}{w:World}{hi n:Nat}{f:α->List Value}{xs:List α}{v:Value}(h:RowsW w hi n f xs v):∃ a c,v=.slice a xs.length c:=by
 obtain ⟨a,c,h,_⟩:=h;exact ⟨a,c,h⟩
def rowC (vs:List Pl.V):List Value:=vs.flatMap vC
theorem rowC_app (a b:List Pl.V):rowC (a++b)=rowC a++rowC b:=by simp [rowC]
theorem rowC_one (v:Pl.V):rowC [v]=vC v:=by simp [rowC]
theorem rowC_len (vs:List Pl.V):(rowC vs).length=vs.length*3:=by
 induction vs with
 | nil=>rfl
 | cons c cs ih=>show (vC c++rowC cs).length=_;rw [List.length_append,ih];simp [vC];omega
theorem Tryz.infoVal:(Tryz.prog.info? 34).map (fun i=>(i.zero,i.size,i.bytes))=some (some (.agg #[.int .i64 0,.int .i64 0,.string ⟨#[]⟩]),3,32):=by kernel_rfl
theorem below_grown {B:Nat}{w a b:World}{row:Option Nat}(h:Below B w a)(hg:a.grownBy b row)(hr:∀ k,row=some k->B<=k)(hB:B<=a.heap.size):Below B w b :=
 h.trans ⟨hg.os,hg.tape,hg.output,hg.size,fun i hi=>hg.block i (by omega) (fun e=>by have:=hr i e.symm;omega)⟩
theorem news2 (w:World)(o:Obj)(C:List Value)(t:TypeId):∀ j u,C[j]?=some u->((w.alloc o).alloc (.cells C.toArray t)).cell? ((⟨w.heap.size+1,0,none⟩:Addr).add j)=some u:=by
 intro j u hj
 have:=news_at (w.alloc o) C t j u hj
 rw [show (w.alloc o).heap.size=w.heap.size+1 by simp] at this
 exact this
theorem vC_one (x:Pl.V):∀ u ∈ vC x,u.oneCell'=true:=by intro u hu;simp [vC] at hu;rcases hu with rfl|rfl|rfl <;> rfl
def PostAll (w:World)(o:Pl.Out (List Pl.V))(e:Ending)(w':World):Prop:=Below w.heap.size w w' /\
 ((∃ er,o=.error er/\e=.returned (.tuple #[.slice none 0 0,.int .i64 (er:Nat)])) \/
  (∃ vs v,o=.ok vs/\e=.returned (.tuple #[v,.int .i64 0])/\w'.ownsRow w.heap.size 34 3 v vs.length (rowC vs)))
def addTo (acc:List Pl.V):Pl.Out (List Pl.V)->Pl.Out (List Pl.V)
 | .error e=>.error e
 | .ok vs=>.ok (acc++vs)
theorem addTo_step {cols:List Pl.Col}{row:List Pl.V}{t:Pl.T}{ts:List Pl.T}{v:Pl.V}{acc:List Pl.V}(h:Pl.ev cols row t=.ok v):addTo acc (Pl.evAll cols row (t :: ts))=addTo (acc++[v]) (Pl.evAll cols row ts):=by
 rw [Pl.evAll,h]
 simp only
 cases Pl.evAll cols row ts with
 | error e=>rfl
 | ok vs=>simp [addTo]
theorem addTo_err {cols:List Pl.Col}{row:List Pl.V}{t:Pl.T}{ts:List Pl.T}{e:Nat}{acc:List Pl.V}(h:Pl.ev cols row t=.error e):addTo acc (Pl.evAll cols row (t :: ts))=.error e:=by
 rw [Pl.evAll,h];rfl
def AllI (w wr:World)(o:Pl.Out (List Pl.V))(cols:List Pl.Col)(row:List Pl.V)(ps:List (Pl.T × Value))(i:Nat)(v:Value)(acc:List Pl.V):Prop :=
 Below w.heap.size w wr/\wr.ownsRow w.heap.size 34 3 v acc.length (rowC acc)/\acc.length=i/\o=addTo acc (Pl.evAll cols row ((ps.drop i).map (·.1)))
theorem reckonAllM (X:MachLib)(cols:List Pl.Col)(row:List Pl.V)(ps:List (Pl.T × Value))(pv rv:Value)(w:World)(hp:ProgsW w w.heap.size cols ps pv)(hr:RowsW w w.heap.size 3 vC row rv)(hf:∀ p ∈ ps,Pl.Fine cols p.1)(hrow:Pl.FineRow cols row)(hl:ps.length<=1000) :
 Calls Tryz.prog 104 #[pv,rv] w (PostAll w (Pl.evAll cols row (ps.map (·.1)))):=by
 obtain ⟨pa,pc,rfl⟩:=hp.1.slice
 obtain ⟨ra,rc,rfl⟩:=hr.slice
 obtain ⟨i0,hi,hz0,hz1,hz2⟩:=info_parts Tryz.infoVal
 have HP:=Z hp
 have HRow:=Z hr
 have HF:=Z hf
 generalize ho:Pl.evAll cols row (ps.map (·.1))=o
 have HO:=Z ho
 clear hp hr hf ho
 go_enter Tryz.func104,Tryz.ntmps104
 go_wp2_with (at_make;refine wpList_make_own _ rfl _ _ 32 rfl w.heap.size 34 i0 (.agg #[.int .i64 0,.int .i64 0,.string ⟨#[]⟩]) 3 Tryz.underlying32 hi hz0 hz1 .i64 .i64 _ ps.length rfl rfl rfl (by rw [hz2];omega) (by unfold maxLen;omega) (Nat.le_refl _) ?_;intro w0 hown0 hg0)
 have HB0:=Z (below_grown (Below.refl w.heap.size w) hg0 (fun k h=>(by cases h)) (Nat.le_refl _))
 have HI0:Hid (AllI w w0 o cols row ps 0 (.slice (some ⟨w.heap.size,0,none⟩) 0 ps.length) []):=⟨HB0.out,hown0,rfl,by rw [<- HO.out];simp;cases Pl.evAll cols row (ps.map (·.1)) <;> simp [addTo]⟩
 clear hown0 hg0
 go_loopw [6,16] (fun s6 s16 wr=>∃ (i:Nat) (acc:List Pl.V),i<=ps.length/\s16=.int .i64 i/\Hid (AllI w wr o cols row ps i s6 acc)) (fun _ a _=>ps.length - (intOf a).toNat)
 case atStart=>exact ⟨0,[],Nat.zero_le _,rfl,HI0⟩
 case round =>
  obtain ⟨i,acc,hi',rfl,HI⟩:=hrel
  clear HI0
  obtain ⟨hbI,hown,hacc,hoI⟩:=HI.out
  obtain ⟨va,vn,vc,rfl⟩:=own_slice hown
  have hbz:=hbI.size
  by_cases hlt:i<ps.length
  ·have hpi:ps[i]?=some ps[i]:=List.getElem?_eq_getElem hlt
   have HD:Hid (ps.drop i=ps[i] :: ps.drop (i+1)):=List.drop_eq_getElem_cons hlt
   have hmem:=List.getElem_mem hlt
   generalize ps[i]=p at *
   obtain ⟨pt,pcv⟩:=p
   obtain ⟨g,cap,he,hg,e0⟩:=(HP.out.1.keep (fun k hk=>hbI.block k hk)).at1 hpi
   cases he
   have hgz:g<wr.heap.size:=by omega
   obtain ⟨qa,qn,qc,rfl⟩:=(HP.out.2 _ hmem).slice
   have hB1:Below wr.heap.size wr (wr.alloc (.cells #[.slice qa qn qc] 204)):=(Below.refl _ _).alloc (Nat.le_refl _) _
   have HRun:=Z (runT X (((HP.out.2 _ hmem).below hbI).below hB1) ((HRow.out.below hbI).below hB1) (HF.out _ hmem) hrow)
   have HB1:=Z (hbI.trans (hB1.mono hbz))
   have HOwn:=Z (own_below hB1 hown)
   have HoI:=Z hoI
   simp only at e0
   clear hbI hown hB1 hoI HI
   cases hev:Pl.ev cols row pt with
   | error er =>
    have her:((er:Int) != 0)=true:=by have:=ev_err hev;simp;omega
    rw [hev] at HRun
    have HE:Hid (o=.error er):=by unfold Hid;rw [HoI.out,HD.out];exact addTo_err hev
    simp only [outV,vV] at HRun
    go_wp2_with fail
    refine (U HRun).mono ?_
    rintro e w2 ⟨rfl,hb2⟩
    have HB2:=Z (HB1.out.trans (hb2.mono HB1.out.size))
    clear hb2 HRun
    go_wp2_with fail
    exact bodyPost_ret (v:=.tuple #[.slice none 0 0,.int .i64 (er:Nat)]) (by simp [results,Tryz.results104,go_sem]) rfl ⟨HB2.out.alloc HB2.out.size _,.inl ⟨er,HE.out,rfl⟩⟩
   | ok x =>
    rw [hev] at HRun
    have HN:Hid (o=addTo (acc++[x]) (Pl.evAll cols row ((ps.drop (i+1)).map (·.1)))):=by unfold Hid;rw [HoI.out,HD.out];exact addTo_step hev
    simp only [outV,vV] at HRun
    go_wp2_with fail
    refine (U HRun).mono ?_
    rintro e w2 ⟨rfl,hb2⟩
    have HB2:=Z (HB1.out.trans (hb2.mono HB1.out.size))
    have hown2:=own_below hb2 HOwn.out
    have hsz2:w.heap.size<=w2.heap.size:=HB2.out.size
    clear hb2 HRun HOwn
    go_wp2_with (at_builtin;refine wpList_append_own _ rfl (.tmp 29) (.tmp 31) 32 rfl w.heap.size 34 i0 _ 3 32 Tryz.underlying32 hi hz0 hz1 hz2 rfl (by decide) _ _ _ rfl ((hown2.alloc _).alloc _) ⟨w2.heap.size+1,0,none⟩ 1 1 (vC x) rfl rfl ?c1 ?c2 ?c3 ?c4 ?c5 ?_)
    case c1=>exact news2 w2 _ (vC x) 34
    case c2=>exact vC_one x
    case c3=>unfold maxLen;omega
    case c4=>omega
    case c5=>simp;omega
    intro v' w4 hown4 hg4 hnil
    have HI4:Hid (AllI w w4 o cols row ps (i+1) v' (acc++[x])):=by
     refine ⟨below_grown ((HB2.out.alloc HB2.out.size _).alloc (by have:=HB2.out.size;simp;omega) _) hg4 (fun k hk=>(hown2.lt k hk).1) (by simp;omega),?_,by simp [hacc],HN.out⟩
     rw [rowC_app,rowC_one,List.length_append,List.length_singleton,hacc]
     exact hown4
    clear hown2 hown4 hg4 hnil
    go_wp2_with fail
    go_roundw
    case rel=>exact ⟨i+1,acc++[x],by omega,by go_num,HI4⟩
    case measure=>simp [intOf];omega
  ·have HE:Hid (o=.ok acc):=by
    unfold Hid
    rw [hoI,List.drop_eq_nil_of_le (by omega)]
    simp [Pl.evAll,addTo]
   have HB:=Z hbI
   have HOwn:=Z hown
   clear hbI hown hoI HI
   go_wp2_with fail
   exact bodyPost_ret (v:=.tuple #[.slice va vn vc,.int .i64 0]) (by simp [results,Tryz.results104,go_sem]) rfl ⟨HB.out,.inr ⟨acc,_,HE.out,rfl,HOwn.out⟩⟩
def offP (w:World)(v:Value):Nat->Prop:=fun k=>k<w.heap.size/\v.ownBlock≠some k
theorem offP.below {w w2:World}{v:Value}(hb:Below w.heap.size w w2){k:Nat}(h:offP w v k):offP w2 v k/\w2.heap[k]?=w.heap[k]?:=⟨⟨by have:=hb.size;have:=h.1;omega,h.2⟩,hb.block k h.1⟩
theorem offP.new {w w2:World}{base:Nat}{e:TypeId}{size n:Nat}{v:Value}{xs:List Value}(h:w.ownsRow base e size v n xs){k:Nat}(h1:w.heap.size<=k)(h2:k<w2.heap.size):offP w2 v k:=⟨h2,fun e=>by have:=(h.lt k e).2;omega⟩
theorem offP.push {w2 w4:World}{v v':Value}(hg:w2.grownBy w4 v.ownBlock)(ho:v'.ownBlock=v.ownBlock\/v'.ownBlock=some w2.heap.size){k:Nat}(h:offP w2 v k):offP w4 v' k/\w4.heap[k]?=w2.heap[k]?:=by
 refine ⟨⟨by have:=hg.size;have:=h.1;omega,fun e=>?_⟩,hg.block k h.1 (fun e=>h.2 e.symm)⟩
 rcases ho with ho|ho
 ·rw [ho] at e;exact h.2 e
 ·rw [ho] at e;cases e;have:=h.1;omega
def tcC (c:List UInt8 × Int):List Value:=[.string ⟨c.1.toArray⟩,.int .i64 c.2]
theorem Tryz.infoPrg:(Tryz.prog.info? 204).map (fun i=>(i.zero,i.size,i.bytes))=some (some (.agg #[.slice none 0 0]),1,24):=by kernel_rfl
theorem RowsW.tc {w:World}{hi:Nat}{cols:List (List UInt8 × Int)}{v:Value}(h:RowsW w hi 2 tcC cols v){i:Nat}{c:List UInt8 × Int}(hc:cols[i]?=some c):∃ g cap,v=.slice (some ⟨g,0,none⟩) cols.length cap/\g<hi /\
 w.cell? ⟨g,i*2,none⟩=some (.string ⟨c.1.toArray⟩)/\w.cell? ⟨g,i*2+1,none⟩=some (.int .i64 c.2):=by
 obtain ⟨a,cap,rfl,h2⟩:=h
 obtain ⟨g,rfl,hg,h3⟩:=h2 (by rintro rfl;simp at hc)
 exact ⟨g,cap,rfl,hg,h3 i c hc 0 _ rfl,h3 i c hc 1 _ rfl⟩
def TreesW (w:World)(hi:Nat)(ts:List (Pl.T × Value))(v:Value):Prop:=RowsW w hi 1 (fun p=>[p.2]) ts v/\∀ p ∈ ts,TrW w hi p.1 p.2
theorem TreesW.keep {w w':World}{hi:Nat}{ps:List (Pl.T × Value)}{v:Value}(h:TreesW w hi ps v)(hk:∀ k,k<hi->w'.heap[k]?=w.heap[k]?):TreesW w' hi ps v:=⟨h.1.keep hk,fun p hp=>(h.2 p hp).keep hk⟩
theorem TreesW.more {w:World}{hi hi':Nat}{ps:List (Pl.T × Value)}{v:Value}(h:TreesW w hi ps v)(hk:hi<=hi'):TreesW w hi' ps v:=⟨h.1.more hk,fun p hp=>(h.2 p hp).more hk⟩
theorem TreesW.below {w w':World}{ps:List (Pl.T × Value)}{v:Value}(h:TreesW w w.heap.size ps v)(hb:Below w.heap.size w w'):TreesW w' w'.heap.size ps v:=(h.keep (fun k hk=>hb.block k hk)).more hb.size
def PostProgs (w:World)(cols:List Pl.Col)(ts:List Pl.T)(o:Option Nat)(e:Ending)(w':World):Prop:=Below w.heap.size w w' /\
 ((∃ er,o=some er/\e=.returned (.tuple #[.slice none 0 0,.int .i64 (er:Nat)])) \/
  (o=none/\∃ ps v,ps.map (·.1)=ts/\e=.returned (.tuple #[v,.int .i64 0])/\ProgsW w' w'.heap.size cols ps v))
def prgC (ps:List (Pl.T × Value)):List Value:=ps.map (·.2)
def ProgsI (w wr:World)(cols:List Pl.Col)(ts:List (Pl.T × Value))(o:Option Nat)(rest:Option Nat)(i:Nat)(v:Value)(ps:List (Pl.T × Value)):Prop :=
 Below w.heap.size w wr/\wr.ownsRow w.heap.size 204 1 v i (prgC ps)/\ps.map (·.1)=(ts.take i).map (·.1)/\ps.length=i/\o=rest/\∀ p ∈ ps,ProgP wr (offP wr v) cols p.1 p.2
theorem ProgsI.end {w wr:World}{cols:List Pl.Col}{ts:List (Pl.T × Value)}{o rest:Option Nat}{i:Nat}{v:Value}{ps:List (Pl.T × Value)}(h:ProgsI w wr cols ts o rest i v ps):ProgsW wr wr.heap.size cols ps v:=by
 obtain ⟨h1,h2,h3,h4,h5,h6⟩:=h
 refine ⟨?_,fun p hp=>(h6 p hp).prog (fun k hk=>hk.1)⟩
 have e:∀ l:List (Pl.T × Value),l.flatMap (fun p=>[p.2])=prgC l:=fun l=>by
  induction l with
  | nil=>rfl
  | cons a l ih=>rw [List.flatMap_cons,ih];rfl
 rw [<- h4,<- e] at h2
 exact own_rows (f:=fun p:Pl.T × Value=>[p.2]) (fun x=>rfl) h2 (Nat.le_refl _)
theorem ProgsI.next {w wr w2 w4:World}{cols:List Pl.Col}{ts:List (Pl.T × Value)}{o rest rest':Option Nat}{i:Nat}{v v':Value}{ps:List (Pl.T × Value)}{p:Pl.T × Value}{cv:Value}(h:ProgsI w wr cols ts o rest i v ps)(hp:ts[i]?=some p)(hr:rest=rest')(hb:Below wr.heap.size wr w2)(hc:ProgP w2 (newP wr.heap.size w2.heap.size) cols p.1 cv)
 (hown:w4.ownsRow w.heap.size 204 1 v' (i+1) (prgC ps++[cv])) (hg:w2.grownBy w4 v.ownBlock) (ho:v'.ownBlock=v.ownBlock\/v'.ownBlock=some w2.heap.size):ProgsI w w4 cols ts o rest' (i+1) v' (ps++[(p.1,cv)]):=by
 obtain ⟨h1,h2,h3,h4,h5,h6⟩:=h
 have hz:=h1.size
 refine ⟨below_grown (h1.trans (hb.mono hz)) hg (fun k hk=>(h2.lt k hk).1) (by have:=hb.size;omega),?_,?_,by simp [h4],by rw [h5,hr],fun q hq=>?_⟩
 ·simpa [prgC] using hown
 ·rw [List.take_add_one,hp]
  simp [h3]
 ·rcases List.mem_append.1 hq with hq|hq
  ·exact ((h6 q hq).keep (fun k hk=>((offP.push hg ho (hk.below hb).1).2).trans (hk.below hb).2)).mono (fun k hk=>(offP.push hg ho (hk.below hb).1).1)
  ·simp at hq;subst hq
   exact (RowsP.keep hc (fun k hk=>(offP.push hg ho (offP.new h2 hk.1 hk.2)).2)).mono (fun k hk=>(offP.push hg ho (offP.new h2 hk.1 hk.2)).1)
def RowO (w:World)(M:Nat->Prop)(r:List Pl.V)(u:Value):Prop:=w.ownsRow 0 34 3 u r.length (rowC r)/\∀ k,u.ownBlock=some k->M k
def tcsC (cs:List (List UInt8 × Int)):List Value:=cs.flatMap tcC
structure Lay where
 n:Nat
 rv:Value
 us:List Value
structure TabW (w:World)(M:Nat->Prop)(l:Lay)(t:Pl.Tab):Prop where
 own:M l.n
 blk:∃ cv,w.heap[l.n]?=some (.cells #[.string ⟨t.name.toArray⟩,cv,l.rv] 94)/\w.ownsRow 0 97 2 cv t.cols.length (tcsC t.cols)/\∀ k,cv.ownBlock=some k->M k
 rows:w.ownsRow 0 32 1 l.rv t.rows.length l.us
 rowsM:∀ k,l.rv.ownBlock=some k->M k
 empty:t.rows=[]->l.rv=.slice none 0 0
 each:∀ (i:Nat) (r:List Pl.V) (u:Value),t.rows[i]?=some r->l.us[i]?=some u->RowO w M r u
def layPtr (l:Lay):Value:=.pointer (some ⟨l.n,0,none⟩)
structure DbW (w:World)(M:Nat->Prop)(b:Nat)(lay:List Lay)(D:Pl.DB):Prop where
 lt:∀ k,M k->k<w.heap.size
 own:M b
 box:∃ tv,w.heap[b]?=some (.cells #[tv] 77)/\w.ownsRow 0 87 1 tv D.length (lay.map layPtr)/\∀ k,tv.ownBlock=some k->M k
 len:lay.length=D.length
 tabs:∀ (i:Nat) (l:Lay) (t:Pl.Tab),lay[i]?=some l->D[i]?=some t->TabW w M l t
 apart:∀ (i j:Nat) (l m:Lay),i≠j->lay[i]?=some l->lay[j]?=some m->l.n≠m.n/\∀ k,l.rv.ownBlock=some k->m.rv.ownBlock≠some k
 ok:Pl.okDB D
theorem own_at {w w':World}{base:Nat}{e:TypeId}{size n:Nat}{v:Value}{xs:List Value}(h:w.ownsRow base e size v n xs)(hk:∀ k,v.ownBlock=some k->w'.heap[k]?=w.heap[k]?):w'.ownsRow base e size v n xs:=by
 obtain ⟨h1,h2⟩:=h
 refine ⟨h1,?_⟩
 rcases h2 with h2|⟨g,cap,cur,rfl,hg,hh,r⟩
 ·exact .inl h2
 ·exact .inr ⟨g,cap,cur,rfl,hg,(hk g rfl).trans hh,r⟩
theorem own_base {w:World}{base base':Nat}{e:TypeId}{size n:Nat}{v:Value}{xs:List Value}(h:w.ownsRow base e size v n xs)(hb:base'<=base):w.ownsRow base' e size v n xs:=by
 obtain ⟨h1,h2⟩:=h
 refine ⟨h1,?_⟩
 rcases h2 with h2|⟨g,cap,cur,rfl,hg,r⟩
 ·exact .inl h2
 ·exact .inr ⟨g,cap,cur,rfl,by omega,r⟩
theorem own_ty {w:World}{base:Nat}{e:TypeId}{size n:Nat}{v:Value}{xs:List Value}(h:w.ownsRow base e size v n xs){k:Nat}(hk:v.ownBlock=some k):∃ C m,w.heap[k]?=some (.cells C e m):=by
 obtain ⟨cur,h⟩:=own_row h k hk;exact ⟨cur,_,h⟩
theorem ty_ne {w:World}{a b:Nat}{C C':Array Value}{e e':TypeId}{m m':Nat × Nat}(ha:w.heap[a]?=some (.cells C e m))(hb:w.heap[b]?=some (.cells C' e' m'))(he:e≠e'):a≠b:=by
 rintro rfl
 rw [ha] at hb
 injection hb with hb
 injection hb with _ hb _
 exact he hb
theorem RowO.keep {w w':World}{M M':Nat->Prop}{r:List Pl.V}{u:Value}(h:RowO w M r u)(hM:∀ k,M k->M' k)(hk:∀ k,u.ownBlock=some k->w'.heap[k]?=w.heap[k]?):RowO w' M' r u:=⟨own_at h.1 hk,fun k hk=>hM k (h.2 k hk)⟩
theorem TabW.keep {w w':World}{M M':Nat->Prop}{l:Lay}{t:Pl.Tab}(h:TabW w M l t)(hM:∀ k,M k->M' k)(hk:∀ k,M k->w'.heap[k]?=w.heap[k]?):TabW w' M' l t:=by
 obtain ⟨h1,⟨cv,h2,h3,h4⟩,h5,h6,h7,h8⟩:=h
 exact ⟨hM _ h1,⟨cv,(hk _ h1).trans h2,own_at h3 (fun k hk'=>hk k (h4 k hk')),fun k hk'=>hM k (h4 k hk')⟩,own_at h5 (fun k hk'=>hk k (h6 k hk')),fun k hk'=>hM k (h6 k hk'),h7,fun i r u hr hu=>(h8 i r u hr hu).keep hM (fun k hk'=>hk k ((h8 i r u hr hu).2 k hk'))⟩
theorem DbW.keep {w w':World}{M:Nat->Prop}{b:Nat}{lay:List Lay}{D:Pl.DB}(h:DbW w M b lay D)(hs:w.heap.size<=w'.heap.size)(hk:∀ k,M k->w'.heap[k]?=w.heap[k]?):DbW w' M b lay D:=by
 obtain ⟨h1,h2,⟨tv,h3,h4,h5⟩,h6,h7,h8,h9⟩:=h
 exact ⟨fun k hm=>Nat.lt_of_lt_of_le (h1 k hm) hs,h2,⟨tv,(hk _ h2).trans h3,own_at h4 (fun k hk'=>hk k (h5 k hk')),h5⟩,h6,fun i l t hl ht=>(h7 i l t hl ht).keep (fun k hm=>hm) hk,h8,h9⟩
theorem DbW.below {w w':World}{M:Nat->Prop}{b:Nat}{lay:List Lay}{D:Pl.DB}(h:DbW w M b lay D)(hb:Below w.heap.size w w'):DbW w' M b lay D:=h.keep hb.size (fun k hk=>hb.block k (h.lt k hk))
theorem DbW.put {w w':World}{M M':Nat->Prop}{b:Nat}{lay:List Lay}{D:Pl.DB}(h:DbW w M b lay D){i:Nat}{l:Lay}{t:Pl.Tab}(hl:lay[i]?=some l)(ht:D[i]?=some t){rows:List (List Pl.V)}{rv:Value}{us:List Value}
 (hM:∀ k,M k->M' k) (hM':∀ k,M' k->k<w'.heap.size) (hkeep:∀ k,M k->k≠l.n->l.rv.ownBlock≠some k->w'.heap[k]?=w.heap[k]?)
 (htab:TabW w' M' ⟨l.n,rv,us⟩ ⟨t.name,t.cols,rows⟩) (hrv:∀ k,rv.ownBlock=some k->l.rv.ownBlock=some k\/w.heap.size<=k) (hok:Pl.okDB (Pl.setRows D i rows)) :
 DbW w' M' b (lay.set i ⟨l.n,rv,us⟩) (Pl.setRows D i rows):=by
 have hT:=h.tabs i l t hl ht
 obtain ⟨cvi,hbi,_,_⟩:=hT.blk
 have hi:i<lay.length:=by
  rcases Nat.lt_or_ge i lay.length with h|h
  ·exact h
  ·rw [List.getElem?_eq_none h] at hl;cases hl
 have hne:∀ {e:TypeId} {k:Nat} {C:Array Value} {m:Nat × Nat},w.heap[k]?=some (.cells C e m)->e≠94->e≠32->k≠l.n/\l.rv.ownBlock≠some k:=by
  intro e k C m hk h1 h2
  refine ⟨ty_ne hk hbi h1,fun e'=>?_⟩
  obtain ⟨C',m',h'⟩:=own_ty hT.rows e'
  exact ty_ne hk h' h2 rfl
 have hkO:∀ {base:Nat} {e:TypeId} {size n:Nat} {v:Value} {xs:List Value},w.ownsRow base e size v n xs->(∀ k,v.ownBlock=some k->M k)->e≠94->e≠32->∀ k,v.ownBlock=some k->w'.heap[k]?=w.heap[k]?:=by
  intro base e size n v xs ho hm h1 h2 k hk
  obtain ⟨C,m,hc⟩:=own_ty ho hk
  obtain ⟨a1,a2⟩:=hne hc h1 h2
  exact hkeep k (hm k hk) a1 a2
 obtain ⟨tv,hb1,hb2,hb3⟩:=h.box
 refine ⟨hM',hM _ h.own,⟨tv,?_,?_,fun k hk=>hM k (hb3 k hk)⟩,by rw [List.length_set,Pl.setRows_len];exact h.len,?_,?_,hok⟩
 ·obtain ⟨a1,a2⟩:=hne hb1 (by decide) (by decide)
  rw [hkeep b h.own a1 a2];exact hb1
 ·rw [Pl.setRows_len]
  have:(lay.set i ⟨l.n,rv,us⟩).map layPtr=lay.map layPtr:=by
   rw [List.map_set]
   apply List.ext_getElem?
   intro j
   rw [List.getElem?_set]
   split
   ·rename_i e;subst e
    split
    ·rw [List.getElem?_map,hl];rfl
    ·rename_i hlt;simp at hlt;omega
   ·rfl
  rw [this]
  exact own_at hb2 (hkO hb2 hb3 (by decide) (by decide))
 ·intro j m s hm hs
  rw [List.getElem?_set] at hm
  unfold Pl.setRows at hs
  rw [List.getElem?_modify] at hs
  by_cases hij:i=j
  ·subst hij
   rw [if_pos rfl,if_pos hi] at hm
   simp at hm;subst hm
   rw [ht] at hs
   simp at hs;subst hs
   exact htab
  ·rw [if_neg hij] at hm
   have hs':D[j]?=some s:=by
    cases hd:D[j]? with
    | none=>rw [hd] at hs;simp at hs
    | some x=>rw [hd] at hs;simp [hij] at hs;rw [hs]
   have hJ:=h.tabs j m s hm hs'
   obtain ⟨ap1,ap2⟩:=h.apart i j l m hij hl hm
   obtain ⟨g1,⟨cv,g2,g3,g4⟩,g5,g6,g7,g8⟩:=hJ
   have k1:w'.heap[m.n]?=w.heap[m.n]?:=hkeep m.n g1 (Ne.symm ap1) (fun e=>by
    obtain ⟨C',m',h'⟩:=own_ty hT.rows e
    exact ty_ne g2 h' (by decide) rfl)
   refine ⟨hM _ g1,⟨cv,k1.trans g2,own_at g3 (hkO g3 g4 (by decide) (by decide)),fun k hk=>hM k (g4 k hk)⟩,own_at g5 (fun k hk=>?_),fun k hk=>hM k (g6 k hk),g7,fun x r u hr hu=>?_⟩
   ·obtain ⟨C,mm,hc⟩:=own_ty g5 hk
    exact hkeep k (g6 k hk) (ty_ne hc hbi (by decide)) (fun e=>ap2 k e hk)
   ·have:=g8 x r u hr hu
    exact this.keep hM (hkO this.1 this.2 (by decide) (by decide))
 ·intro x y lx ly hxy hx hy
  rw [List.getElem?_set] at hx hy
  by_cases hix:i=x
  ·subst hix
   rw [if_pos rfl,if_pos hi] at hx
   rw [if_neg hxy] at hy
   simp at hx;subst hx
   obtain ⟨a1,a2⟩:=h.apart i y l ly hxy hl hy
   refine ⟨a1,fun k hk hk'=>?_⟩
   rcases hrv k hk with h0|h0
   ·exact a2 k h0 hk'
   ·have hs:∃ s,D[y]?=some s:=by
     have:y<D.length:=by
      rw [<- h.len]
      rcases Nat.lt_or_ge y lay.length with h|h
      ·exact h
      ·rw [List.getElem?_eq_none h] at hy;cases hy
     exact ⟨_,List.getElem?_eq_getElem this⟩
    obtain ⟨s,hs⟩:=hs
    have:=h.lt k ((h.tabs y ly s hy hs).rowsM k hk')
    omega
  ·rw [if_neg hix] at hx
   by_cases hiy:i=y
   ·subst hiy
    rw [if_pos rfl,if_pos hi] at hy
    simp at hy;subst hy
    obtain ⟨a1,a2⟩:=h.apart x i lx l (Ne.symm hix) hx hl
    refine ⟨a1,fun k hk hk'=>?_⟩
    rcases hrv k hk' with h0|h0
    ·exact a2 k hk h0
    ·have hs:∃ s,D[x]?=some s:=by
      have:x<D.length:=by
       rw [<- h.len]
       rcases Nat.lt_or_ge x lay.length with h|h
       ·exact h
       ·rw [List.getElem?_eq_none h] at hx;cases hx
      exact ⟨_,List.getElem?_eq_getElem this⟩
     obtain ⟨s,hs⟩:=hs
     have:=h.lt k ((h.tabs x lx s hx hs).rowsM k hk)
     omega
   ·rw [if_neg hiy] at hy
    exact h.apart x y lx ly hxy hx hy
theorem pickL (c:Int)(n:Nat)(w:World)(hc:Pl.in64 c)(h0:0<n)(hn:n<=9223372036854775807) :
 Calls Tryz.prog 53 #[.int .i64 c,.int .i64 (n:Nat)] w fun e w'=>e=.returned (.int .i64 (Pl.pickK c n:Nat))/\w'=w:=by
 obtain ⟨hc1,hc2⟩:=hc
 unfold Pl.pickK
 by_cases hneg:c<0
 ·obtain ⟨k,rfl⟩:∃ k:Nat,c=-(k:Int) - 1:=⟨(-(c+1)).toNat,by omega⟩
  rw [if_pos hneg]
  have e:(-(-(k:Int) - 1+1)).toNat=k:=by omega
  rw [e]
  go_enter Tryz.func53,Tryz.ntmps53
  go_wp2_with fail
  go_ret
  exact ⟨ret_int (by go_num),rfl⟩
 ·obtain ⟨k,rfl⟩:∃ k:Nat,c=(k:Int):=⟨c.toNat,by omega⟩
  rw [if_neg hneg]
  go_enter Tryz.func53,Tryz.ntmps53
  go_wp2_with fail
  go_ret
  exact ⟨ret_int (by go_num),rfl⟩
theorem copiedN (w:World):Calls Tryz.prog 139 #[.slice none 0 0] w fun e w'=>e=.returned (.slice none 0 0)/\w'=w:=by
 go_enter Tryz.func139,Tryz.ntmps139
 go_wp2_with fail
 go_loop [3,4] (fun a b=>a=.slice none 0 0/\b=.int .i64 0) (fun _ _=>0)
 case atStart=>exact ⟨rfl,rfl⟩
 case round =>
  obtain ⟨rfl,rfl⟩:=hrel
  go_wp2_with fail
  go_ret
  exact ⟨rfl,rfl⟩
theorem sameRowsN (w:World):Calls Tryz.prog 58 #[.slice none 0 0,.slice none 0 0] w fun e w'=>e=.returned (.bool true)/\w'=w:=by
 go_enter Tryz.func58,Tryz.ntmps58
 go_wp2_with fail
 go_loop [5] (fun b=>b=.int .i64 0) (fun _=>0)
 case atStart=>rfl
 case round =>
  obtain rfl:=hrel
  go_wp2_with fail
  go_ret
  exact ⟨rfl,rfl⟩
def FullO (w:World)(L:Nat->Prop)(g:Value)(kind:Int):Prop:=∃ a m c,g=.slice a m c/\m<=3/\(0<m->∃ b,a=some ⟨b,0,none⟩/\b<w.heap.size/\L b/\∀ i,i<m->∃ q qc,w.cell? ⟨b,i,none⟩=some (.slice (some ⟨q,0,none⟩) 1 qc)/\q<w.heap.size/\L q/\w.cell? ⟨q,0,none⟩=some (.int .i64 kind))
theorem fullOutM (g:Value)(kind:Int)(L:Nat->Prop)(w:World)(h:FullO w L g kind):Calls Tryz.prog 60 #[g,.int .i64 kind] w fun e w'=>e=.returned (.bool true)/\w'=w:=by
 obtain ⟨a,m,c,rfl,hm,h2⟩:=h
 have H2:=Z h2
 clear h2
 go_enter Tryz.func60,Tryz.ntmps60
 go_wp2_with fail
 go_loop [5] (fun b=>∃ i:Nat,i<=m/\b=.int .i64 (i:Nat)) (fun b=>m - (intOf b).toNat)
 case atStart=>exact ⟨0,Nat.zero_le _,rfl⟩
 case round =>
  obtain ⟨i,hi,rfl⟩:=hrel
  by_cases hlt:i<m
  ·obtain ⟨b,rfl,hb,_,h3⟩:=H2.out (by omega)
   obtain ⟨q,qc,e0,hq,_,e1⟩:=h3 i hlt
   have hii:((i:Nat):Int)<((m:Nat):Int):=by omega
   clear h3
   go_wp2_with fail
   go_round
   case rel=>exact ⟨i+1,by omega,by go_num⟩
   case measure=>simp [intOf];omega
  ·obtain rfl:i=m:=by omega
   go_wp2_with fail
   go_ret
   exact ⟨rfl,rfl⟩
end Go.Proofs.YtojdpjpldokjmaaGreatDoor
namespace Go.Proofs.YtojdpjpldokjmaaGreatDoor.Pl
theorem tabAt_none {db:DB}{name:List UInt8}(h:∀ (j:Nat)(t:Tab),db[j]?=some t->t.name≠name):tabAt db name=none:=by
 unfold tabAt
 rw [List.findIdx?_eq_none_iff]
 intro t ht
 obtain ⟨j,hj⟩:=List.mem_iff_getElem?.1 ht
 simpa using h j t hj
theorem tabAt_some {db:DB}{name:List UInt8}{i:Nat}{t:Tab}(h:∀ (j:Nat)(s:Tab),j<i->db[j]?=some s->s.name≠name)(ht:db[i]?=some t)(hn:t.name=name):tabAt db name=some i:=by
 unfold tabAt
 have hi:i<db.length:=by
  rcases Nat.lt_or_ge i db.length with h|h
  ·exact h
  ·rw [List.getElem?_eq_none h] at ht;cases ht
 rw [List.findIdx?_eq_some_iff_getElem]
 refine ⟨hi,?_,fun j hj=>?_⟩
 ·rw [List.getElem?_eq_getElem hi] at ht
  simp at ht
  rw [ht];simpa using hn
 ·have:=h j _ hj (List.getElem?_eq_getElem (by omega))
  simpa using this
end Go.Proofs.YtojdpjpldokjmaaGreatDoor.Pl
namespace Go.Proofs.YtojdpjpldokjmaaGreatDoor
open Go.RowKit Go.Deep
set_option linter.unusedSimpArgs false
set_option linter.unusedVariables false
def tabPtr (lay:List Lay):Option Nat->Value
 | some i=>layPtr (lay.getD i ⟨0,.slice none 0 0,[]⟩)
 | none=>.pointer none
theorem DbW.slice {w:World}{M:Nat->Prop}{b:Nat}{lay:List Lay}{D:Pl.DB}(h:DbW w M b lay D):∃ a c,w.heap[b]?=some (.cells #[.slice a D.length c] 77)/\∀ (i:Nat)(l:Lay),lay[i]?=some l->∃ g,a=some ⟨g,0,none⟩/\g<w.heap.size/\w.cell? ⟨g,i,none⟩=some (layPtr l):=by
 obtain ⟨tv,h1,h2,h3⟩:=h.box
 rcases h2.2 with ⟨rfl,h0⟩|⟨g,cap,cur,rfl,hb,hg,hc,hm,hs,ht⟩
 ·refine ⟨none,0,by rw [h0];exact h1,fun i l hl=>?_⟩
  rw [List.length_eq_zero_iff.1 (h.len.trans h0)] at hl;simp at hl
 ·refine ⟨_,cap,h1,fun i l hl=>⟨g,rfl,lB hg,?_⟩⟩
  have h4:(lay.map layPtr)[i]?=some (layPtr l):=by rw [List.getElem?_map,hl];rfl
  rw [<- ht,List.getElem?_take] at h4
  split at h4
  ·rw [bC hg];simpa using h4
  ·cases h4
theorem findM (name:List UInt8)(w:World)(M:Nat->Prop)(b:Nat)(lay:List Lay)(D:Pl.DB)(h:DbW w M b lay D) :
 Calls Tryz.prog 101 #[.pointer (some ⟨b,0,none⟩),.string ⟨name.toArray⟩] w fun e w'=>e=.returned (tabPtr lay (Pl.tabAt D name))/\w'=w:=by
 obtain ⟨ta,tc,hbx,hat⟩:=h.slice
 have hb:=lB hbx
 have c0:=bC hbx 0
 simp at c0
 have hD:D.length<=6:=h.ok.1
 have HA:=Z hat
 have HW:=Z h
 generalize ho:tabPtr lay (Pl.tabAt D name)=out
 have HO:=Z ho
 clear h hbx hat ho
 go_enter Tryz.func101,Tryz.ntmps101
 go_wp2_with fail
 go_loop [12] (fun a=>∃ i:Nat,i<=D.length/\a=.int .i64 i/\Hid (∀ (j:Nat) (t:Pl.Tab),j<i->D[j]?=some t->t.name≠name)) (fun a=>D.length - (intOf a).toNat)
 case atStart=>exact ⟨0,Nat.zero_le _,rfl,fun j t hj=>by omega⟩
 case round =>
  obtain ⟨i,hi,rfl,HN⟩:=hrel
  by_cases hlt:i<D.length
  ·have hdi:D[i]?=some D[i]:=List.getElem?_eq_getElem hlt
   have hli:lay[i]?=some (lay[i]'(by rw [HW.out.len];exact hlt)):=List.getElem?_eq_getElem _
   generalize lay[i]'(by rw [HW.out.len];exact hlt)=l at *
   generalize D[i]=t at *
   obtain ⟨g,rfl,hg,e0⟩:=HA.out i l hli
   obtain ⟨cv,hbl,_,_⟩:=(HW.out.tabs i l t hli hdi).blk
   have n0:=bC hbl 0
   simp at n0
   have hnl:=lB hbl
   unfold layPtr at e0
   by_cases hq:t.name=name
   ·obtain ⟨qa,qb⟩:=eq_facts hq
    have HE:Hid (out=.pointer (some ⟨l.n,0,none⟩)):=by
     unfold Hid
     rw [<- HO.out,Pl.tabAt_some HN.out hdi hq]
     simp [tabPtr,List.getD,hli,layPtr]
    clear hbl hq
    go_wp2_with fail
    go_ret
    exact ⟨by rw [HE.out];rfl,rfl⟩
   ·obtain ⟨qa,qb⟩:=ne_facts hq
    have HN2:Hid (∀ (j:Nat) (s:Pl.Tab),j<i+1->D[j]?=some s->s.name≠name):=fun j s hj hs=>by
     by_cases e:j=i
     ·subst e;rw [hdi] at hs;cases hs;exact hq
     ·exact HN.out j s (by omega) hs
    clear hbl hq
    go_wp2_with fail
    go_round
    case rel=>exact ⟨i+1,by omega,by go_num,HN2⟩
    case measure=>simp [intOf];omega
  ·have HE:Hid (out=.pointer none):=by
    unfold Hid
    rw [<- HO.out,Pl.tabAt_none (fun j t hj=>HN.out j t (by
     have:j<D.length:=by
      rcases Nat.lt_or_ge j D.length with h|h
      ·exact h
      ·rw [List.getElem?_eq_none h] at hj;cases hj
     omega) hj)]
    rfl
   go_wp2_with fail
   go_ret
   exact ⟨by rw [HE.out];rfl,rfl⟩
theorem tcsC_rows {w:World}{base:Nat}{cs:List (List UInt8 × Int)}{v:Value}(h:w.ownsRow base 97 2 v cs.length (tcsC cs)):RowsW w w.heap.size 2 tcC cs v:=own_rows (f:=tcC) (fun x=>rfl) h (Nat.le_refl _)
theorem own_cap {w:World}{base:Nat}{e:TypeId}{size n:Nat}{v:Value}{xs:List Value}(h:w.ownsRow base e size v n xs):∃ a c,v=.slice a n c/\n<=c:=by
 rcases h.2 with ⟨rfl,h0⟩|⟨g,cap,cur,rfl,_,_,hc,_⟩
 ·exact ⟨none,0,by rw [h0],by omega⟩
 ·exact ⟨_,_,rfl,hc⟩
def nmsOf (cs:List (List UInt8 × Int)):List (List UInt8):=cs.map (·.1)
theorem nameTwiceM (cs:List (List UInt8 × Int))(cv:Value)(base:Nat)(w:World)(hcv:w.ownsRow base 97 2 cv cs.length (tcsC cs))(hl:cs.length<=1000) :
 Calls Tryz.prog 102 #[cv] w fun e w'=>e=.returned (.bool (Pl.dup (nmsOf cs)))/\Below w.heap.size w w':=by
 obtain ⟨ca,cc,rfl,hcap⟩:=own_cap hcv
 have HC:=Z (tcsC_rows hcv)
 generalize ho:Pl.dup (nmsOf cs)=out
 have HO:=Z ho
 clear hcv ho
 go_enter Tryz.func102,Tryz.ntmps102
 go_wp2_with fail
 go_loopw [9] (fun a wr=>∃ i:Nat,i<=cs.length/\a=.int .i64 i/\Hid (Below w.heap.size w wr)/\Hid (out=Pl.dupGo (nmsOf (cs.take i)) (nmsOf (cs.drop i)))) (fun a _=>cs.length - (intOf a).toNat)
 case atStart=>exact ⟨0,Nat.zero_le _,rfl,Below.refl _ _,by rw [<- HO.out];rfl⟩
 case round =>
  obtain ⟨i,hi,rfl,HB,HD⟩:=hrel
  have hbz:=HB.out.size
  by_cases hlt:i<cs.length
  ·have hpi:cs[i]?=some cs[i]:=List.getElem?_eq_getElem hlt
   have HDr:Hid (cs.drop i=cs[i] :: cs.drop (i+1)):=List.drop_eq_getElem_cons hlt
   have HTk:Hid (cs.take (i+1)=cs.take i++[cs[i]]):=by unfold Hid;rw [List.take_add_one,hpi];rfl
   generalize cs[i]=c at *
   obtain ⟨g,cap,he,hg,e0,e1⟩:=(HC.out.keep (fun k hk=>HB.out.block k hk)).tc hpi
   cases he
   have hgz:g<wr.heap.size:=by omega
   have hic:i<=cc:=by omega
   obtain ⟨wo,rfl⟩:∃ wo:World,wo=wr:=⟨_,rfl⟩
   go_wp2_with fail
   go_loopw [18] (fun a wr=>∃ j:Nat,j<=i/\a=.int .i64 j/\Hid (Below wo.heap.size wo wr)/\wr.cell? ⟨wo.heap.size,0,none⟩=some (.string ⟨c.1.toArray⟩)/\wo.heap.size<wr.heap.size/\Hid (∀ q d,q<j->cs[q]?=some d->d.1≠c.1)) (fun a _=>i - (intOf a).toNat)
   case atStart=>exact ⟨0,Nat.zero_le _,rfl,(Below.refl _ _).alloc (Nat.le_refl _) _,by simp,by simp,fun q d hq=>by omega⟩
   case round =>
    obtain ⟨j,hj,rfl,HBj,cj,hzj,HNj⟩:=hrel
    by_cases hjt:j<i
    ·have hpj:cs[j]?=some (cs[j]'(by omega)):=List.getElem?_eq_getElem _
     generalize cs[j]'(by omega)=d at *
     have HB2:=Z (HB.out.trans (HBj.out.mono hbz))
     obtain ⟨g2,cap2,he2,hg2,f0,f1⟩:=(HC.out.keep (fun k hk=>HB2.out.block k hk)).tc hpj
     cases he2
     have hg2z:g<wr.heap.size:=by omega
     by_cases hq:d.1=c.1
     ·obtain ⟨qa,qb⟩:=eq_facts hq
      have HE:Hid (out=true):=by
       unfold Hid
       rw [HD.out,HDr.out]
       show Pl.dupGo _ (c.1 :: nmsOf (cs.drop (i+1)))=true
       rw [Pl.dupGo]
       have hm:c.1 ∈ nmsOf (cs.take i):=by
        unfold nmsOf
        rw [List.mem_map]
        refine ⟨d,?_,hq⟩
        rw [List.mem_iff_getElem?]
        exact ⟨j,by rw [List.getElem?_take,if_pos hjt];exact hpj⟩
       simp [hm]
      clear hq
      go_wp2_with fail
      go_ret
      exact ⟨by rw [HE.out];rfl,HB2.out.alloc HB2.out.size _⟩
     ·obtain ⟨qa,qb⟩:=ne_facts hq
      have HN2:Hid (∀ q d',q<j+1->cs[q]?=some d'->d'.1≠c.1):=fun q d' hq' hd'=>by
       by_cases e:q=j
       ·subst e;rw [hpj] at hd';cases hd';exact hq
       ·exact HNj.out q d' (by omega) hd'
      clear hq
      go_wp2_with fail
      go_roundw
      case rel=>exact ⟨j+1,by omega,by go_num,HBj.out.alloc HBj.out.size _,(World.cell?_of_block (Below.heap_alloc wr _ _ hzj)).trans cj,by simp;omega,HN2⟩
      case measure=>simp [intOf];omega
    ·have HB2:=Z (HB.out.trans (HBj.out.mono hbz))
     have HD2:Hid (out=Pl.dupGo (nmsOf (cs.take (i+1))) (nmsOf (cs.drop (i+1)))):=by
      unfold Hid
      rw [HD.out,HDr.out,HTk.out]
      show Pl.dupGo _ (c.1 :: nmsOf (cs.drop (i+1)))=_
      rw [Pl.dupGo]
      have hm:(nmsOf (cs.take i)).contains c.1=false:=by
       rw [Bool.eq_false_iff]
       intro h
       rw [List.contains_iff_mem] at h
       unfold nmsOf at h
       rw [List.mem_map] at h
       obtain ⟨d,hd,hdc⟩:=h
       obtain ⟨q,hq⟩:=List.mem_iff_getElem?.1 hd
       rw [List.getElem?_take] at hq
       split at hq
       ·exact HNj.out q d (by omega) hq hdc
       ·cases hq
      rw [hm,Bool.false_or]
      unfold nmsOf
      rw [List.map_append]
      rfl
     go_wp2_with fail
     go_roundw
     case rel=>exact ⟨i+1,by omega,by go_num,HB2.out,HD2⟩
     case measure=>simp [intOf];omega
  ·obtain rfl:i=cs.length:=by omega
   have HE:Hid (out=false):=by
    unfold Hid
    rw [HD.out,List.drop_length]
    rfl
   go_wp2_with fail
   go_ret
   exact ⟨by rw [HE.out];rfl,HB.out⟩
def rowWhy (ts:List Pl.T)(cs:List (List UInt8 × Int)):Option Nat:=if ts.length≠cs.length then some 3 else Pl.tcRow ts (cs.map (·.2))
theorem tcAs_err {cols:List Pl.Col}{t:Pl.T}{want:Int}{er:Nat}(h:Pl.tcAs cols t want=some er):er=2\/er=3:=by
 unfold Pl.tcAs at h
 cases ht:Pl.tc cols t with
 | error e=>rw [ht] at h;cases h;exact Pl.tc_err ht
 | ok a =>
  rw [ht] at h
  simp only at h
  split at h
  ·cases h
  ·cases h;exact .inr rfl
theorem compileRowM (cs:List (List UInt8 × Int))(ts:List (Pl.T × Value))(n:Nat)(tv cv:Value)(w:World)(hr:RulesAt w)(hg : 9<w.heap.size)(hn:n<w.heap.size)(hc:w.cell? ⟨n,1,none⟩=some cv)(hcv:RowsW w w.heap.size 2 tcC cs cv)(hcl:cs.length<=1000)(ht:TreesW w w.heap.size ts tv)(hok:∀ p ∈ ts,Pl.okT p.1)(hl:ts.length<=1000) :
 Calls Tryz.prog 103 #[.pointer (some ⟨n,0,none⟩),tv] w (PostProgs w [] (ts.map (·.1)) (rowWhy (ts.map (·.1)) cs)):=by
 obtain ⟨ta,tc,rfl⟩:=ht.1.slice
 obtain ⟨ca,cc,rfl⟩:=hcv.slice
 obtain ⟨i0,hi,hz0,hz1,hz2⟩:=info_parts Tryz.infoPrg
 have HT:=Z ht
 have HCv:=Z hcv
 have HIn:Hid (∀ w' p,Below w.heap.size w w'->p ∈ ts->CompIn w' p.1 p.2 [] (.slice none 0 0)):=fun w' p hb hp =>
  (CompIn.mk hr hg (ht.2 p hp) (hok p hp) ⟨none,0,rfl,fun h=>absurd rfl h⟩ (by simp)).below hb
 generalize ho:rowWhy (ts.map (·.1)) cs=o
 have HO:=Z ho
 clear ht hok hcv ho hr hg
 by_cases hlen:ts.length=cs.length
 ·have HO2:Hid (Pl.tcRow (ts.map (·.1)) (cs.map (·.2))=o):=by
   unfold Hid;rw [<- HO.out];unfold rowWhy;rw [if_neg (by simp [hlen])]
  have hne:(((ts.length:Nat):Int) != ((cs.length:Nat):Int))=false:=by simp;omega
  have HLen:=Z hlen
  clear hlen
  go_enter Tryz.func103,Tryz.ntmps103
  go_wp2_with fail
  go_loopw [6,21] (fun s6 s21 wr=>∃ (i:Nat) (ps:List (Pl.T × Value)),i<=ts.length/\s21=.int .i64 i/\Hid (ProgsI w wr [] ts o (Pl.tcRow ((ts.drop i).map (·.1)) ((cs.drop i).map (·.2))) i s6 ps)) (fun _ a _=>ts.length - (intOf a).toNat)
  case atStart=>exact ⟨0,[],Nat.zero_le _,rfl,Below.refl _ _,World.ownsRow_nil _ _ _ _,rfl,rfl,HO2.out.symm,by simp⟩
  case round =>
   obtain ⟨i,ps,hi',rfl,HI⟩:=hrel
   have hown:=HI.out.2.1
   have hbI:=HI.out.1
   obtain ⟨va,vn,vc,rfl⟩:=own_slice hown
   have hbz:=hbI.size
   by_cases hlt:i<ts.length
   ·have hpi:ts[i]?=some ts[i]:=List.getElem?_eq_getElem hlt
    have HD:Hid (ts.drop i=ts[i] :: ts.drop (i+1)):=List.drop_eq_getElem_cons hlt
    have hmem:=List.getElem_mem hlt
    generalize ts[i]=p at *
    have hcs:i<cs.length:=by have:=HLen.out;omega
    have hci:cs[i]?=some cs[i]:=List.getElem?_eq_getElem hcs
    have HDc:Hid (cs.drop i=cs[i] :: cs.drop (i+1)):=List.drop_eq_getElem_cons hcs
    generalize cs[i]=c at *
    obtain ⟨pt,pv⟩:=p
    obtain ⟨cn,ct⟩:=c
    obtain ⟨g,cap,he,hgl,e0⟩:=(HT.out.1.keep (fun k hk=>hbI.block k hk)).at1 hpi
    cases he
    obtain ⟨g2,cap2,he2,hgl2,f0,f1⟩:=(HCv.out.keep (fun k hk=>hbI.block k hk)).tc hci
    cases he2
    have hgz:g<wr.heap.size:=by omega
    have hg2z:g2<wr.heap.size:=by omega
    have hnr:n<wr.heap.size:=by omega
    have hcr:wr.cell? ⟨n,1,none⟩=some (.slice (some ⟨g2,0,none⟩) cs.length cc):=(World.cell?_of_block (hbI.block n hn)).trans hc
    simp only at e0 f0 f1
    have HV:=Z (compileAsM pt [] ct pv _ wr (HIn.out wr _ hbI hmem))
    have HB:=Z hbI
    clear hbI hown
    go_wp2_with fail
    refine (U HV).mono ?_
    rintro e w2 ⟨hb2,hp2⟩
    have HB2:=Z hb2
    have hz2':=hb2.size
    clear hb2
    rcases hp2 with ⟨er,htc,rfl⟩|⟨u,htc,rfl,hprog⟩
    ·have her:((er:Int) != 0)=true:=by have:=tcAs_err htc;simp;omega
     have HE:Hid (o=some er):=by
      unfold Hid
      rw [HI.out.2.2.2.2.1,HD.out,HDc.out]
      simp only [List.map_cons,Pl.tcRow]
      rw [htc]
     clear htc
     go_wp2_with fail
     exact bodyPost_ret (v:=.tuple #[.slice none 0 0,.int .i64 (er:Nat)]) (by simp [results,Tryz.results103,go_sem]) rfl ⟨(HB.out.trans (HB2.out.mono hbz)).alloc (by omega) _,.inl ⟨er,HE.out,rfl⟩⟩
    ·obtain ⟨ua,un,uc,rfl⟩:=hprog.slice
     have HPr:=Z hprog
     have HN:Hid (Pl.tcRow ((ts.drop i).map (·.1)) ((cs.drop i).map (·.2))=Pl.tcRow ((ts.drop (i+1)).map (·.1)) ((cs.drop (i+1)).map (·.2))):=by
      unfold Hid
      rw [HD.out,HDc.out]
      simp only [List.map_cons,Pl.tcRow]
      rw [htc]
     have hown2:=own_below HB2.out HI.out.2.1
     clear htc hprog
     go_wp2_with (at_builtin;refine wpList_append_own_at _ rfl (.tmp 42) (.tmp 44) 195 rfl w.heap.size 204 i0 _ 1 24 Tryz.underlying195 hi hz0 hz1 hz2 rfl (by decide) _ _ _ rfl ((hown2.alloc _).alloc _) ⟨w2.heap.size+1,0,none⟩ 1 1 [.slice ua un uc] rfl rfl ?c1 ?c2 ?c3 ?c4 ?c5 ?_)
     case c1=>exact news2 w2 _ [.slice ua un uc] 204
     case c2=>intro x hx;simp at hx;subst hx;rfl
     case c3=>unfold maxLen;omega
     case c4=>omega
     case c5=>simp;omega
     intro v' w4 hown4 hg4 hnil ho4
     have HI4:=Z (HI.out.next (w2:=(w2.alloc (.cells #[.slice ua un uc] 204)).alloc (.cells #[.slice ua un uc] 204)) (v':=v') (cv:=.slice ua un uc) hpi HN.out ((HB2.out.alloc HB2.out.size _).alloc (by simp;omega) _) ((RowsP.keep HPr.out (fun k hk=>by
      have:=hk.2
      rw [Below.heap_alloc _ _ _ (by simp;omega),Below.heap_alloc _ _ _ (by omega)])).mono (fun k hk=>⟨hk.1,by have:=hk.2;simp;omega⟩)) hown4 hg4 (by simpa using ho4))
     clear hown2 hown4 hg4 hnil ho4
     go_wp2_with fail
     go_roundw
     case rel=>exact ⟨i+1,_,by omega,by go_num,HI4⟩
     case measure=>simp [intOf];omega
   ·obtain rfl:i=ts.length:=by omega
    have HE:Hid (o=none):=by unfold Hid;rw [HI.out.2.2.2.2.1,List.drop_length];rfl
    have HM:Hid (ps.map (·.1)=ts.map (·.1)):=by unfold Hid;rw [HI.out.2.2.1,List.take_length]
    clear hbI hown
    go_wp2_with fail
    exact bodyPost_ret (v:=.tuple #[.slice va vn vc,.int .i64 0]) (by simp [results,Tryz.results103,go_sem]) rfl ⟨HI.out.1,.inr ⟨HE.out,ps,_,HM.out,rfl,HI.out.end⟩⟩
 ·have HE:Hid (o=some 3):=by unfold Hid;rw [<- HO.out];unfold rowWhy;rw [if_pos (by simpa using hlen)]
  have hne:(((ts.length:Nat):Int) != ((cs.length:Nat):Int))=true:=by simp;omega
  go_enter Tryz.func103,Tryz.ntmps103
  go_wp2_with fail
  exact bodyPost_ret (v:=.tuple #[.slice none 0 0,.int .i64 ((3:Nat):Int)]) (by simp [results,Tryz.results103,go_sem]) rfl ⟨Below.refl _ _,.inl ⟨3,HE.out,rfl⟩⟩
structure DbStep (lo:Nat)(w:World)(M:Nat->Prop)(b:Nat)(D:Pl.DB)(w':World)(M':Nat->Prop)(lay:List Lay):Prop where
 db:DbW w' M' b lay D
 sub:∀ k,M k->M' k
 new:∀ k,M' k->M k\/lo<=k
 keep:KP (fun k=>k<w.heap.size/\¬ M k) w w'
theorem DbStep.below {lo:Nat}{w w':World}{M:Nat->Prop}{b:Nat}{D:Pl.DB}{lay:List Lay}(h:DbW w M b lay D)(hb:Below w.heap.size w w'):DbStep lo w M b D w' M lay :=
 ⟨h.below hb,fun k hk=>hk,fun k hk=>.inl hk,⟨hb.os,hb.tape,hb.output,hb.size,fun k hk=>hb.block k hk.1⟩⟩
def grown (M:Nat->Prop)(w w':World):Nat->Prop:=fun k=>M k\/(w.heap.size<=k/\k<w'.heap.size)
theorem getElem?_lt {α:Type}{l:List α}{i:Nat}{x:α}(h:l[i]?=some x):i<l.length:=by
 rcases Nat.lt_or_ge i l.length with h'|h'
 ·exact h'
 ·rw [List.getElem?_eq_none h'] at h;cases h
theorem tab_push {w w3 w4:World}{M:Nat->Prop}{b:Nat}{lay:List Lay}{D:Pl.DB}(h:DbW w M b lay D){i:Nat}{l:Lay}{t:Pl.Tab}(hl:lay[i]?=some l)(ht:D[i]?=some t){row:List Pl.V}{u v':Value}(hb:Below w.heap.size w w3)(hu:w3.ownsRow w.heap.size 34 3 u row.length (rowC row))
 (hown:w4.ownsRow 0 32 1 v' (t.rows.length+1) (l.us++[u])) (hg:w3.grownBy w4 l.rv.ownBlock) (ho:v'.ownBlock=l.rv.ownBlock\/v'.ownBlock=some w3.heap.size) (hok:Pl.okDB (Pl.setRows D i (t.rows++[row]))) :
 (∃ cv,w4.heap[l.n]?=some (.cells #[.string ⟨t.name.toArray⟩,cv,l.rv] 94)) /\
 DbStep w.heap.size w M b (Pl.setRows D i (t.rows++[row])) (w4.setCell ⟨l.n,2,none⟩ v') (grown M w w4) (lay.set i ⟨l.n,v',l.us++[u]⟩):=by
 have hT:=h.tabs i l t hl ht
 obtain ⟨cv,g2,g3,g4⟩:=hT.blk
 have hz3:=hb.size
 have hz4:=hg.size
 have hln:=h.lt _ hT.own
 have hk4:∀ k,k<w.heap.size->l.rv.ownBlock≠some k->w4.heap[k]?=w.heap[k]?:=fun k hk hne=>by
  rw [hg.block k (by omega) (fun e=>hne e.symm),hb.block k hk]
 have hnl:l.rv.ownBlock≠some l.n:=fun e=>by
  obtain ⟨C,m,hc⟩:=own_ty hT.rows e
  exact ty_ne hc g2 (by decide) rfl
 have hb4:w4.heap[l.n]?=some (.cells #[.string ⟨t.name.toArray⟩,cv,l.rv] 94):=(hk4 _ hln hnl).trans g2
 refine ⟨⟨cv,hb4⟩,?_⟩
 have hkeep:∀ k,k<w.heap.size->k≠l.n->l.rv.ownBlock≠some k->(w4.setCell ⟨l.n,2,none⟩ v').heap[k]?=w.heap[k]?:=fun k hk hne hne2=>by
  rw [Below.heap_setCell _ _ _ _ hne];exact hk4 k hk hne2
 have hkO:∀ {base:Nat} {e:TypeId} {size n:Nat} {v:Value} {xs:List Value},w.ownsRow base e size v n xs->(∀ k,v.ownBlock=some k->M k)->e≠94->e≠32->∀ k,v.ownBlock=some k->(w4.setCell ⟨l.n,2,none⟩ v').heap[k]?=w.heap[k]?:=by
  intro base e size n v xs hov hm h1 h2 k hk
  obtain ⟨C,m,hc⟩:=own_ty hov hk
  refine hkeep k (h.lt k (hm k hk)) (ty_ne hc g2 h1) (fun e'=>?_)
  obtain ⟨C',m',h'⟩:=own_ty hT.rows e'
  exact ty_ne hc h' h2 rfl
 have hv4:∀ k,v'.ownBlock=some k->k≠l.n:=fun k hk e=>by
  subst e
  rcases ho with h0|h0
  ·rw [h0] at hk;exact hnl hk
  ·rw [h0] at hk;injection hk with hk;omega
 have hM:∀ k,M k->grown M w w4 k:=fun k hk=>.inl hk
 have hnewu:∀ k,u.ownBlock=some k->w.heap.size<=k/\k<w3.heap.size:=fun k hk=>hu.lt k hk
 refine ⟨h.put hl ht hM (fun k hk=>?_) (fun k hk hne hne2=>hkeep k (h.lt k hk) hne hne2) ?_ (fun k hk=>?_) hok,hM,fun k hk=>hk.imp id (fun h=>h.1),?_⟩
 ·rw [size_set]
  rcases hk with hk|hk
  ·have:=h.lt k hk;omega
  ·exact hk.2
 ·refine ⟨hM _ hT.own,⟨cv,?_,?_,fun k hk=>hM k (g4 k hk)⟩,?_,fun k hk=>?_,fun hn=>?_,fun j r x hr hx=>?_⟩
  ·have:=bS hb4 2 v'
   simpa using this
  ·exact own_at g3 (hkO g3 g4 (by decide) (by decide))
  ·simp only [List.length_append,List.length_singleton]
   exact own_at hown (fun k hk=>Below.heap_setCell _ _ _ _ (hv4 k hk))
  ·rcases ho with h0|h0
   ·have hk':v'.ownBlock=some k:=hk
    rw [h0] at hk';exact hM k (hT.rowsM k hk')
   ·have hk':v'.ownBlock=some k:=hk
    rw [h0] at hk';cases hk'
    refine .inr ⟨hz3,?_⟩
    exact (hown.lt _ hk).2
  ·simp at hn
  ·have hlen:l.us.length=t.rows.length:=by have:=hT.rows.1;omega
   by_cases hj:j<t.rows.length
   ·rw [List.getElem?_append_left hj] at hr
    rw [List.getElem?_append_left (by omega)] at hx
    have:=hT.each j r x hr hx
    exact this.keep hM (hkO this.1 this.2 (by decide) (by decide))
   ·have hj':j=t.rows.length:=by have:=getElem?_lt hr;simp at this;omega
    subst hj'
    simp at hr
    rw [<- hlen] at hx
    simp at hx
    subst hr;subst hx
    refine ⟨own_at (own_base hu (Nat.zero_le _)) (fun k hk=>?_),fun k hk=>.inr ⟨(hnewu k hk).1,by have:=(hnewu k hk).2;omega⟩⟩
    have hk1:=hnewu k hk
    rw [Below.heap_setCell _ _ _ _ (show k≠l.n by omega)]
    exact hg.block k hk1.2 (fun e=>by have:=h.lt k (hT.rowsM k e.symm);omega)
 ·rcases ho with h0|h0
  ·rw [h0] at hk;exact .inl hk
  ·rw [h0] at hk;cases hk;exact .inr hz3
 ·refine ⟨hg.os.trans hb.os,hg.tape.trans hb.tape,hg.output.trans hb.output,by rw [size_set];omega,fun k hk=>hkeep k hk.1 (fun e=>hk.2 (e ▸ hT.own)) (fun e=>hk.2 (hT.rowsM k e))⟩
theorem DbStep.low {lo lo':Nat}{w w':World}{M M':Nat->Prop}{b:Nat}{D:Pl.DB}{lay:List Lay}(h:DbStep lo w M b D w' M' lay)(hl:lo'<=lo):DbStep lo' w M b D w' M' lay:=⟨h.db,h.sub,fun k hk=>(h.new k hk).imp id (fun h=>Nat.le_trans hl h),h.keep⟩
def PostCh (lo:Nat)(w:World)(M:Nat->Prop)(b:Nat)(o:Pl.DB × Pl.Ans)(e:Ending)(w':World):Prop :=
 e=.returned (.tuple #[.int .i64 o.2.count,.int .i64 (o.2.err:Nat)])/\∃ M' lay',DbStep lo w M b o.1 w' M' lay'
theorem Tryz.infoRow:(Tryz.prog.info? 32).map (fun i=>(i.zero,i.size,i.bytes))=some (some (.slice none 0 0),1,24):=by kernel_rfl
theorem evAll_err {cols:List Pl.Col}{row:List Pl.V}:∀ {ts:List Pl.T}{e:Nat},Pl.evAll cols row ts=.error e->e=4\/e=5
 | [],e,h=>by simp [Pl.evAll] at h
 | t :: ts,e,h=>by
  unfold Pl.evAll at h
  cases ht:Pl.ev cols row t with
  | error e'=>rw [ht] at h;cases h;exact ev_err ht
  | ok v =>
   rw [ht] at h
   simp only at h
   cases hs:Pl.evAll cols row ts with
   | error e'=>rw [hs] at h;cases h;exact evAll_err hs
   | ok vs=>rw [hs] at h;cases h
theorem tcRow_fine:∀ {ts:List Pl.T}{ws:List Int},ts.length=ws.length->Pl.tcRow ts ws=none->∀ t ∈ ts,∃ ty,Pl.tc [] t=.ok ty
 | [],_,_,_,t,h=>by cases h
 | t :: ts,[],hl,_,_,_=>by simp at hl
 | t :: ts,w :: ws,hl,h,u,hu=>by
  unfold Pl.tcRow at h
  cases ha:Pl.tcAs [] t w with
  | some e=>rw [ha] at h;cases h
  | none =>
   rw [ha] at h
   rcases List.mem_cons.1 hu with rfl|hu
   ·obtain ⟨ty,hty,_⟩:=Pl.tcAs_ok ha;exact ⟨ty,hty⟩
   ·exact tcRow_fine (by simpa using hl) h u hu
structure ExIn (w:World)(M:Nat->Prop)(b:Nat)(lay:List Lay)(D:Pl.DB):Prop where
 db:DbW w M b lay D
 rules:RulesAt w
 glob:¬ M 9/\9<w.heap.size
theorem ExIn.below {w w':World}{M:Nat->Prop}{b:Nat}{lay:List Lay}{D:Pl.DB}(h:ExIn w M b lay D)(hb:Below w.heap.size w w'):ExIn w' M b lay D :=
 ⟨h.db.below hb,h.rules.keep (hb.block _ h.glob.2),h.glob.1,Nat.lt_of_lt_of_le h.glob.2 hb.size⟩
theorem tab_of {w:World}{M:Nat->Prop}{b:Nat}{lay:List Lay}{D:Pl.DB}(h:DbW w M b lay D){i:Nat}(hi:i<D.length):∃ l,lay[i]?=some l/\D[i]?=some (Pl.tabD D i)/\tabPtr lay (some i)=.pointer (some ⟨l.n,0,none⟩):=by
 have hl:i<lay.length:=by rw [h.len];exact hi
 refine ⟨lay[i],List.getElem?_eq_getElem hl,?_,?_⟩
 ·unfold Pl.tabD
  rw [List.getD_eq_getElem?_getD,List.getElem?_eq_getElem hi]
  rfl
 ·simp [tabPtr,List.getD,List.getElem?_eq_getElem hl,layPtr]
theorem doInsert_noTab {D:Pl.DB}{s:Pl.St}(h:Pl.tabAt D s.table=none):Pl.doInsert D s=(D,Pl.no 2):=by unfold Pl.doInsert;rw [h]
theorem doInsert_why {D:Pl.DB}{s:Pl.St}{i:Nat}{er:Nat}(h:Pl.tabAt D s.table=some i)(hw:rowWhy (s.items.map (·.tree)) (Pl.tabD D i).cols=some er):Pl.doInsert D s=(D,Pl.no er):=by
 unfold Pl.doInsert
 rw [h]
 unfold rowWhy at hw
 simp only [List.length_map] at hw
 simp only
 by_cases hl:s.items.length=(Pl.tabD D i).cols.length
 ·rw [if_neg (fun hh=>hh hl)] at hw ⊢
  rw [hw]
 ·rw [if_pos hl] at hw ⊢
  cases hw;rfl
theorem doInsert_ev {D:Pl.DB}{s:Pl.St}{i:Nat}(h:Pl.tabAt D s.table=some i)(hw:rowWhy (s.items.map (·.tree)) (Pl.tabD D i).cols=none):s.items.length=(Pl.tabD D i).cols.length/\Pl.tcRow (s.items.map (·.tree)) ((Pl.tabD D i).cols.map (·.2))=none/\Pl.doInsert D s=match Pl.evAll [] [] (s.items.map (·.tree)) with
 | .error e=>(D,Pl.no e)
 | .ok row=>if (Pl.tabD D i).rows.length=25 then (D,Pl.no 6) else (Pl.setRows D i ((Pl.tabD D i).rows++[row]),⟨[],1,0⟩):=by
 unfold rowWhy at hw
 simp only [List.length_map] at hw
 by_cases hl:s.items.length=(Pl.tabD D i).cols.length
 ·rw [if_neg (fun hh=>hh hl)] at hw
  refine ⟨hl,hw,?_⟩
  unfold Pl.doInsert
  rw [h]
  simp only
  rw [if_neg (fun hh=>hh hl),hw]
  simp only
  cases Pl.evAll [] [] (s.items.map (·.tree)) <;> rfl
 ·rw [if_pos hl] at hw;cases hw
theorem tcRow_err:∀ {ts:List Pl.T}{ws:List Int}{er:Nat},Pl.tcRow ts ws=some er->er=2\/er=3
 | [],ws,er,h=>by cases ws <;> simp [Pl.tcRow] at h
 | t :: ts,[],er,h=>by simp [Pl.tcRow] at h
 | t :: ts,c :: ws,er,h=>by
  unfold Pl.tcRow at h
  cases ha:Pl.tcAs [] t c with
  | some e=>rw [ha] at h;cases h;exact tcAs_err ha
  | none=>rw [ha] at h;exact tcRow_err h
theorem rowWhy_err {ts:List Pl.T}{cs:List (List UInt8 × Int)}{er:Nat}(h:rowWhy ts cs=some er):er=2\/er=3:=by
 unfold rowWhy at h
 split at h
 ·cases h;exact .inr rfl
 ·exact tcRow_err h
theorem insertM (X:MachLib)(lo:Nat)(s:Pl.St)(hs:Pl.okSt s)(hk:s.kind=105)(ts:List (Pl.T × Value))(hts:ts.map (·.1)=s.items.map (·.tree))(n:Nat)(tv:Value)(w:World)(M:Nat->Prop)(b:Nat)(lay:List Lay)(D:Pl.DB)(h:ExIn w M b lay D)(hlo:lo<=w.heap.size)
 (hn:w.heap[n]?=some (.cells #[.string ⟨s.table.toArray⟩,tv] 194)) (ht:TreesW w w.heap.size ts tv) :
 Calls Tryz.prog 66 #[.pointer (some ⟨b,0,none⟩),.pointer (some ⟨n,0,none⟩)] w (PostCh lo w M b (Pl.doInsert D s)):=by
 have HS:=Z hs
 have hnz:=lB hn
 have n0:=bC hn 0
 have n1:=bC hn 1
 simp at n0 n1
 have HF:=Z (findM s.table w M b lay D h.db)
 have HN:=Z hn
 have HT:=Z ht
 have HX:=Z h
 have HTs:=Z hts
 have hlen:ts.length<=1000:=by have:=congrArg List.length hts;simp at this;have:=hs.len;omega
 have HOk:Hid (∀ p ∈ ts,Pl.okT p.1):=fun p hp=>by
  have:p.1 ∈ s.items.map (·.tree):=by rw [<- hts];exact List.mem_map_of_mem hp
  obtain ⟨it,h1,h2⟩:=List.mem_map.1 this
  rw [<- h2];exact hs.items (by omega) it h1
 generalize hD2:Pl.doInsert D s=out
 have HD2:=Z hD2
 have HNo:Hid (∀ er w',out=(D,Pl.no er)->Below w.heap.size w w'->PostCh lo w M b out (.returned (.tuple #[.int .i64 0,.int .i64 (er:Nat)])) w'):=fun er w' ho hb=>by
  rw [ho];exact ⟨rfl,M,lay,DbStep.below h.db hb⟩
 have HYes:Hid (∀ w' M' lay' D' (c:Int),out=(D',⟨[],c,0⟩)->DbStep lo w M b D' w' M' lay'->PostCh lo w M b out (.returned (.tuple #[.int .i64 c,.int .i64 0])) w'):=fun w' M' lay' D' c ho hst=>by
  rw [ho];exact ⟨rfl,M',lay',hst⟩
 generalize PostCh lo w M b out=Post at *
 clear hs hn ht h hts hD2
 cases hta:Pl.tabAt D s.table with
 | none =>
  rw [hta] at HF
  have HE:=Z (HNo.out 2 w (by rw [<- HD2.out];exact doInsert_noTab hta) (Below.refl _ _))
  simp only [tabPtr] at HF
  go_enter Tryz.func66,Tryz.ntmps66
  go_wp2_with fail
  refine (U HF).mono ?_
  rintro e w1 ⟨rfl,rfl⟩
  go_wp2_with fail
  exact HE.out
 | some i =>
  obtain ⟨l,hl,htD,hptr⟩:=tab_of HX.out.db (Pl.tabAt_lt hta)
  rw [hta,hptr] at HF
  have HL:=Z hl
  have HTD:=Z htD
  have hT:=HX.out.db.tabs i l _ hl htD
  have hokT:=HX.out.db.ok.2 _ (Pl.tabD_mem (Pl.tabAt_lt hta))
  have HTA:=Z hta
  obtain ⟨cv,hlb,hcv,_⟩:=hT.blk
  have l1:=bC hlb 1
  have l2:=bC hlb 2
  simp at l1 l2
  have hlz:=lB hlb
  have hcl:=hokT.ncols
  have HC:=Z (compileRowM (Pl.tabD D i).cols ts l.n tv cv w HX.out.rules HX.out.glob.2 hlz l1 (tcsC_rows hcv) (by omega) HT.out HOk.out hlen)
  rw [HTs.out] at HC
  have HTb:=Z hT
  have HLb:=Z hlb
  clear hl htD hptr hT hta hlb hcv
  go_enter Tryz.func66,Tryz.ntmps66
  go_wp2_with fail
  refine (U HF).mono ?_
  rintro e w1 ⟨rfl,rfl⟩
  go_wp2_with fail
  refine (U HC).mono ?_
  rintro e w2 ⟨hb2,hp2⟩
  have HB2:=Z hb2
  rcases hp2 with ⟨er,hwhy,rfl⟩|⟨hwhy,ps,pv,hps,rfl,hprg⟩
  ·have her:((er:Int) != 0)=true:=by have:=rowWhy_err hwhy;simp;omega
   have HE:=Z (HNo.out er w2 (by rw [<- HD2.out];exact doInsert_why HTA.out hwhy) HB2.out)
   clear hwhy hb2
   go_wp2_with fail
   exact HE.out
  ·obtain ⟨e1,e2,e3⟩:=doInsert_ev HTA.out hwhy
   have hfine:∀ p ∈ ps,Pl.Fine [] p.1:=fun p hp=>by
    have hm:p.1 ∈ s.items.map (·.tree):=by rw [<- hps];exact List.mem_map_of_mem hp
    refine ⟨?_,tcRow_fine (by simpa using e1) e2 _ hm⟩
    obtain ⟨it,h1,h2⟩:=List.mem_map.1 hm
    rw [<- h2];exact HS.out.items (by omega) it h1
   have hrl:RowsW w2 w2.heap.size 3 vC ([]:List Pl.V) (.slice none 0 0):=⟨none,0,rfl,fun h=>absurd rfl h⟩
   have HR:=Z (reckonAllM X [] [] ps pv (.slice none 0 0) w2 hprg hrl hfine ⟨fun v hv=>(by cases hv),by simp⟩ (by have:=congrArg List.length hps;simp at this;have:=HS.out.len;omega))
   rw [hps] at HR
   have HE3:=Z e3
   have hz2:=hb2.size
   clear hwhy hb2 e1 e2 e3 hfine hrl hprg
   go_wp2_with fail
   refine (U HR).mono ?_
   rintro e w3 ⟨hb3,hp3⟩
   have HB3:=Z (HB2.out.trans (hb3.mono hz2))
   have hz3:=hb3.size
   rcases hp3 with ⟨er,hev,rfl⟩|⟨row,u,hev,rfl,hu⟩
   ·have her:((er:Int) != 0)=true:=by have:=evAll_err hev;simp;omega
    have HE:=Z (HNo.out er w3 (by rw [<- HD2.out,HE3.out,hev]) HB3.out)
    clear hev hb3
    go_wp2_with fail
    exact HE.out
   ·obtain ⟨ra,rc,hrv,hcap⟩:=own_cap HTb.out.rows
    have hlb3:=bB HB3.out hlz HLb.out
    have m2:=bC hlb3 2
    simp at m2
    rw [hrv] at m2
    have hlz3:=lB hlb3
    by_cases h25:(Pl.tabD D i).rows.length=25
    ·have HE:=Z (HNo.out 6 w3 (by rw [<- HD2.out,HE3.out,hev];simp only;rw [if_pos h25]) HB3.out)
     have g25:((((Pl.tabD D i).rows.length:Nat):Int) == 25)=true:=by simp;omega
     clear hev hb3 h25
     go_wp2_with fail
     exact HE.out
    ·have g25:((((Pl.tabD D i).rows.length:Nat):Int) == 25)=false:=by simp;omega
     have hr25:=hokT.nrows
     obtain ⟨ua,un,uc,rfl⟩:=own_slice hu
     have hown3:=own_below HB3.out HTb.out.rows
     rw [hrv] at hown3
     obtain ⟨i0,hi,hz0,hz1,hz2'⟩:=info_parts Tryz.infoRow
     have HOkD:Hid (Pl.okDB (Pl.setRows D i ((Pl.tabD D i).rows++[row]))):=by
      unfold Hid
      have:=Pl.doSt_ok HS.out HX.out.db.ok
      unfold Pl.doSt at this
      rw [if_neg (by omega),if_pos hk,HD2.out,<- HD2.out,HE3.out,hev] at this
      simp only at this
      rw [if_neg h25] at this
      exact this
     have HOut:Hid (out=(Pl.setRows D i ((Pl.tabD D i).rows++[row]),⟨[],1,0⟩)):=by
      unfold Hid;rw [<- HD2.out,HE3.out,hev];simp only;rw [if_neg h25]
     have HU:=Z (own_base hu hz2)
     clear hev hb3 h25 hu
     go_wp2_with (at_builtin;refine wpList_append_own_at _ rfl (.tmp 48) (.tmp 50) 29 rfl 0 32 i0 _ 1 24 Tryz.underlying29 hi hz0 hz1 hz2' rfl (by decide) _ _ _ rfl (hown3.alloc _) ⟨w3.heap.size,0,none⟩ 1 1 [.slice ua un uc] rfl rfl ?c1 ?c2 ?c3 ?c4 ?c5 ?_)
     case c1=>exact news_at w3 [.slice ua un uc] 32
     case c2=>intro x hx;simp at hx;subst hx;rfl
     case c3=>unfold maxLen;omega
     case c4=>omega
     case c5=>simp
     intro v' w4 hown4 hg4 hnil ho4
     rw [<- hrv] at hg4 ho4
     obtain ⟨⟨cv4,hlb4⟩,hst⟩:=tab_push HX.out.db HL.out HTD.out (w3:=w3.alloc (.cells #[.slice ua un uc] 32)) (HB3.out.alloc (by omega) _) (HU.out.alloc _) hown4 hg4 (by simpa using ho4) HOkD.out
     have HSt:=Z hst
     have q2:=bC hlb4 2
     have qf:=bF hlb4 2
     simp at q2
     rw [hrv] at q2
     have hlz4:=lB hlb4
     obtain ⟨xa,xn,xc,rfl⟩:=own_slice hown4
     clear hown3 hown4 hg4 hnil ho4 hst hlb4 hlb3
     go_wp2_with fail
     exact HYes.out _ _ _ _ 1 HOut.out (HSt.out.low hlo)
end Go.Proofs.YtojdpjpldokjmaaGreatDoor
