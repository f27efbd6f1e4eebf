/- The document's statements in memory; DELETE. -/
import Derived.Test.YtojdpjpldokjmaaGreatDoorF25
import Derived.Test.YtojdpjpldokjmaaGreatDoorF03
import Derived.Deep.DeepCutAuto
set_option maxHeartbeats 60000000
set_option maxRecDepth 100000
namespace Go.Proofs.YtojdpjpldokjmaaGreatDoor
open Go.RowKit Go.Deep
set_option linter.unusedSimpArgs false
set_option linter.unusedVariables false
def stCells (kind:Int)(table:ByteArray)(vi vs:Value)(vw:Option Addr)(vk:Value)(dis all:Bool)(lim off:Int):Array Value :=
 #[.int .u8 kind,.string table,vi,vs,.pointer vw,vk,.bool dis,.bool all,.int .i64 lim,.int .i64 off]
def StW (w:World)(rb:Nat)(st:Pl.St)(a:Option Addr):Prop :=
 ∃ (p:Nat) (vi vs vk:Value) (vw:Option Addr),a=some ⟨p,0,none⟩/\rb<p/\w.heap[p]?=some (.cells (stCells st.kind ⟨st.table.toArray⟩ vi vs vw vk st.distinct st.all st.limit st.offset) 111) /\
  ItemsW w rb (rb+1) st.items vi/\ItemsW w rb (rb+1) st.sources vs/\RTree w rb st.whr (.pointer vw)/\ItemsW w rb (rb+1) st.keys vk
def PostQr (w:World)(rb:Nat)(s:ByteArray)(spec:Option (Pl.St × List Pl.Tok))(e:Ending)(w':World):Prop :=
 Keeps rb w w'/\∃ a:Option Addr,e=.returned (.pointer a)/\match spec with
  | some (st,r)=>StW w' rb st a/\RT w' rb s r 0 false
  | none=>∃ ts' d',d'<=21/\RT w' rb s ts' d' true
theorem items_nil (w:World)(rb:Nat):ItemsW w rb (rb+1) [] (.slice none 0 0):=⟨[],World.ownsRow_nil _ _ _ _,rfl⟩
def kStmt:List Nat:=[20,22,25,28,30]
theorem strs_stmt (w:World):strsAt (w.alloc (.cells #[.string { data:=#[67,82,69,65,84,69] },.string { data:=#[73,78,83,69,82,84] },.string { data:=#[68,69,76,69,84,69] },.string { data:=#[85,80,68,65,84,69] },.string { data:=#[83,69,76,69,67,84] }] 9)) w.heap.size kStmt :=
 strs_new w kStmt _ _ rfl (by decide)
theorem RTree.setSt {w:World}{rb xb:Nat}{C:Array Value}(hx:w.heap[xb]?=some (.cells C 111))(o:Nat)(u:Value){t:Pl.T}{v:Value}(h:RTree w rb t v):RTree (w.setCell ⟨xb,o,none⟩ u) rb t v :=
 h.nodes (fun n D hn=>by
  by_cases e:n=xb
  ·subst e;rw [hx] at hn;injection hn with hn;injection hn with _ hn _;exact absurd hn (by decide)
  ·exact blk_set_ne hn e _ _)
theorem isK_iff (ts:List Pl.Tok)(k:Nat)(b:Bool):isK ts k b=true ↔ b=false/\(Pl.hd ts).k=k:=by
 unfold isK;cases b <;> simp
theorem toK_of {ts:List Pl.Tok}{k:Nat}{b:Bool}(h:isK ts k b=true):toK ts k b=ts.tail:=by unfold toK;rw [h];rfl
theorem must_ok {ts:List Pl.Tok}{k:Nat}{b:Bool}(h:(!isK ts k b)=false):b=false/\(Pl.hd ts).k=k/\toK ts k b=ts.tail:=by
 have h1:isK ts k b=true:=by simpa using h
 exact ⟨((isK_iff _ _ _).1 h1).1,((isK_iff _ _ _).1 h1).2,toK_of h1⟩
theorem must_no {ts:List Pl.Tok}{k:Nat}{b:Bool}(h:(!isK ts k b)=true):b=true\/(b=false/\(Pl.hd ts).k≠k):=by
 have h1:isK ts k b=false:=by simpa using h
 cases b with
 | true=>exact .inl rfl
 | false=>exact .inr ⟨rfl,fun e=>by have:=(isK_iff ts k false).2 ⟨rfl,e⟩;rw [h1] at this;cases this⟩
theorem whereAny (rb:Nat)(s:ByteArray)(ts:List Pl.Tok)(d:Nat)(b:Bool)(w:World)(hd:d<=21)(hb:b=false->d=0)(hR:RT w rb s ts d b) :
 Calls Tryz.prog 125 #[.pointer (some ⟨rb,0,none⟩)] w (PostV w rb s d (bsp b (Pl.pWhere ts))):=by
 cases b with
 | false=>have:=hb rfl;subst this;exact where_good rb s ts w hR
 | true=>exact where_bad rb s ts d w hd hR
theorem stmt_delete (rb:Nat)(s:ByteArray)(ts:List Pl.Tok)(w:World)(hR:RT w rb s ts 0 false)(hk:(Pl.hd ts).k=25) :
 Calls Tryz.prog 75 #[.pointer (some ⟨rb,0,none⟩)] w (PostQr w rb s (Pl.pStatement ts)):=by
 have hrb:=hR.lt
 have hR1:=hR.alloc (.cells (stCells 0 { data:=#[] } (.slice none 0 0) (.slice none 0 0) none (.slice none 0 0) false false 0 0) 111)
 have HF:=Z (firstN kStmt 5 rfl _ 5 rb s ts 0 false _ (hR1.alloc (.cells #[.string { data:=#[67,82,69,65,84,69] },.string { data:=#[73,78,83,69,82,84] },.string { data:=#[68,69,76,69,84,69] },.string { data:=#[85,80,68,65,84,69] },.string { data:=#[83,69,76,69,67,84] }] 9)) (strs_stmt _) (by simp;omega) (by omega))
 have hf:Hid (fstI ts false kStmt 0=2/\fstTo ts false kStmt=ts.tail):=by simp [Hid,fstI,fstTo,kStmt,isK,hk]
 rw [hf.out.1,hf.out.2] at HF
 simp only [World.size_alloc,stCells] at HF
 have HSP:Hid (Pl.pStatement ts=Pl.pDelete ts.tail):=by simp [Hid,Pl.pStatement,hk]
 clear hR hR1 hf hk
 go_enter Tryz.func75,Tryz.ntmps75
 go_wp2_with fail
 refine (U HF).mono ?_
 rintro e w1 ⟨rfl,hr1,hk1⟩
 have HK1:=Z ((((Keeps.refl rb w).alloc _).alloc _).trans hk1)
 have HN:=Z (needT 26 (by decide) (by decide) rb s ts.tail 0 false { data:=#[70,82,79,77] } rfl w1 hr1)
 clear hr1 hk1 HF
 go_wp2_with fail
 refine (U HN).mono ?_
 rintro e w2 ⟨rfl,hr2,hk2⟩
 have HK2:=Z (HK1.out.trans hk2)
 have HM:=Z (nameT rb s _ 0 _ w2 hr2)
 clear hr2 hk2 HN HK1
 go_wp2_with fail
 refine (U HM).mono ?_
 rintro e w3 ⟨rfl,hr3,hk3⟩
 have HK3:=Z (HK2.out.trans hk3)
 have hlt3:=hr3.lt
 have hst:∃ T b,RT w3 rb s T 0 b/\(b=false->(Pl.hd ts.tail).k=26/\(Pl.hd ts.tail.tail).k=1/\T=ts.tail.tail.tail)/\(b=true->Pl.pDelete ts.tail=none):=by
  refine ⟨_,_,hr3,?_,?_⟩
  ·intro h
   obtain ⟨h1,h2,h3⟩:=must_ok h
   obtain ⟨_,h4,h5⟩:=must_ok h1
   rw [h5] at h2 h3 ⊢
   exact ⟨h4,h2,h3⟩
  ·intro h
   unfold Pl.pDelete
   rcases must_no h with h1|⟨h1,h2⟩
   ·rcases must_no h1 with h3|⟨_,h3⟩
    ·cases h3
    ·rw [if_neg h3]
   ·obtain ⟨_,h4,h5⟩:=must_ok h1
    rw [h5] at h2
    rw [if_pos h4,if_neg h2]
 obtain ⟨T,b,hrT,hgo,hba⟩:=hst
 have HG:=Z hgo
 have HB:=Z hba
 have hrN:=hrT.alloc (.cells (stCells 100 (Pl.refB (Pl.hd (toK ts.tail 26 false))) (.slice none 0 0) (.slice none 0 0) none (.slice none 0 0) false false 0 0) 111)
 have HW:=Z (whereAny rb s T 0 b _ (by omega) (fun _=>rfl) hrN)
 have hbk:=blk_new w3 (.cells (stCells 100 (Pl.refB (Pl.hd (toK ts.tail 26 false))) (.slice none 0 0) (.slice none 0 0) none (.slice none 0 0) false false 0 0) 111)
 have HBK:=Z hbk
 simp only [stCells] at HW
 generalize hNm:Pl.refB (Pl.hd (toK ts.tail 26 false))=N at *
 have HNm:=Z hNm
 clear hr3 hk3 HM HK2 hgo hba hrN hrT hbk hNm
 go_wp2_with fail
 refine (U HW).mono ?_
 rintro e w4 ⟨hk4,a,rfl,hp⟩
 have hbk4:=hk4.blk (by omega) HBK.out
 have x4:=bC hbk4 4
 have xf:=bF hbk4
 simp [stCells] at x4
 have HBK4:=Z hbk4
 have HK4:=Z ((HK3.out.alloc _).trans hk4)
 have HP:=Z hp
 have hsz:=HK3.out.size
 have hne:rb≠w3.heap.size:=by omega
 clear hk4 hp hbk4 HW
 go_wp2_with fail
 go_ret
 refine ⟨HK4.out.setNew hsz _,_,rfl,?_⟩
 have hq:=HP.out
 have rX:∀ ts d b,RT w4 rb s ts d b->RT (w4.setCell ⟨w3.heap.size,4,none⟩ (.pointer a)) rb s ts d b:=fun ts d b h=>by
  obtain ⟨p,q1,q2,q3,q4⟩:=h
  exact ⟨p,q1,q2,blk_set_ne q3 hne _ _,q4⟩
 rw [HSP.out]
 cases hv:bsp b (Pl.pWhere T) with
 | none =>
  rw [hv] at hq
  obtain ⟨t5,d5,h1,h2,h3⟩:=hq
  have hn:Pl.pDelete ts.tail=none:=by
   cases b with
   | true=>exact HB.out rfl
   | false =>
    obtain ⟨g1,g2,rfl⟩:=HG.out rfl
    have:Pl.pWhere ts.tail.tail.tail=none:=hv
    unfold Pl.pDelete;rw [if_pos g1,if_pos g2,this]
  rw [hn]
  exact ⟨t5,d5,h2,rX _ _ _ h3⟩
 | some y =>
  obtain ⟨x,r⟩:=y
  rw [hv] at hq
  cases b with
  | true=>cases hv
  | false =>
   obtain ⟨g1,g2,rfl⟩:=HG.out rfl
   have hv':Pl.pWhere ts.tail.tail.tail=some (x,r):=hv
   have hn:Pl.pDelete ts.tail=some (Pl.st0 100 (Pl.hd ts.tail.tail).s [] x,r):=by unfold Pl.pDelete;rw [if_pos g1,if_pos g2,hv']
   have hN:N=⟨(Pl.hd ts.tail.tail).s.toArray⟩:=by
    rw [<- HNm.out,toK_of ((isK_iff _ _ _).2 ⟨rfl,g1⟩)];simp [Pl.refB,Pl.refS,g2]
   rw [hn]
   refine ⟨⟨w3.heap.size,.slice none 0 0,.slice none 0 0,.slice none 0 0,a,rfl,hlt3,?_,items_nil _ _,items_nil _ _,RTree.setSt HBK4.out 4 _ hq.1,items_nil _ _⟩,rX _ _ _ hq.2⟩
   have:=bS HBK4.out 4 (.pointer a)
   rw [hN] at this
   simpa [stCells,Pl.st0] using this
theorem valuesAny (rb:Nat)(s:ByteArray)(ts:List Pl.Tok)(d:Nat)(hd:d<=21)(b:Bool)(hb:b=false->d=0)(w:World)(hR:RT w rb s ts d b) :
 Calls Tryz.prog 124 #[.pointer (some ⟨rb,0,none⟩)] w (PostI w rb s d (if b=true then none else Pl.listed Pl.iValue ts)):=by
 cases b with
 | false=>have:=hb rfl;subst this;exact values_good rb s ts w hR
 | true=>exact values_bad rb s ts d w hd hR
theorem ItemsW.base {w:World}{rb base base':Nat}{its:List Pl.It}{v:Value}(hb:base'<=base)(h:ItemsW w rb base its v):ItemsW w rb base' its v:=by
 obtain ⟨cs,h1,h2⟩:=h
 exact ⟨cs,own_baseR hb h1,h2⟩
theorem ItemsW.setSt {w:World}{rb base xb:Nat}{C:Array Value}(hx:w.heap[xb]?=some (.cells C 111))(o:Nat)(u:Value){its:List Pl.It}{v:Value}(h:ItemsW w rb base its v):ItemsW (w.setCell ⟨xb,o,none⟩ u) rb base its v:=by
 obtain ⟨cs,⟨h1,h2⟩,h3⟩:=h
 refine ⟨cs,⟨h1,?_⟩,h3.mono (fun t v=>RTree.setSt hx o u)⟩
 rcases h2 with h2|⟨g,cap,cur,hv,hg,hh,r⟩
 ·exact .inl h2
 ·refine .inr ⟨g,cap,cur,hv,hg,blk_set_ne hh (fun e=>?_) _ _,r⟩
  subst e;rw [hx] at hh;injection hh with hh;injection hh with _ hh _;exact absurd hh (by decide)
theorem rt_set {w:World}{rb xb:Nat}{s:ByteArray}{ts:List Pl.Tok}{d:Nat}{b:Bool}(hne:rb≠xb)(o:Nat)(u:Value)(h:RT w rb s ts d b):RT (w.setCell ⟨xb,o,none⟩ u) rb s ts d b:=by
 obtain ⟨p,q1,q2,q3,q4⟩:=h
 exact ⟨p,q1,q2,blk_set_ne q3 hne _ _,q4⟩
theorem stmt_insert (rb:Nat)(s:ByteArray)(ts:List Pl.Tok)(w:World)(hR:RT w rb s ts 0 false)(hk:(Pl.hd ts).k=22) :
 Calls Tryz.prog 75 #[.pointer (some ⟨rb,0,none⟩)] w (PostQr w rb s (Pl.pStatement ts)):=by
 have hrb:=hR.lt
 have hR1:=hR.alloc (.cells (stCells 0 { data:=#[] } (.slice none 0 0) (.slice none 0 0) none (.slice none 0 0) false false 0 0) 111)
 have HF:=Z (firstN kStmt 5 rfl _ 5 rb s ts 0 false _ (hR1.alloc (.cells #[.string { data:=#[67,82,69,65,84,69] },.string { data:=#[73,78,83,69,82,84] },.string { data:=#[68,69,76,69,84,69] },.string { data:=#[85,80,68,65,84,69] },.string { data:=#[83,69,76,69,67,84] }] 9)) (strs_stmt _) (by simp;omega) (by omega))
 have hf:Hid (fstI ts false kStmt 0=1/\fstTo ts false kStmt=ts.tail):=by simp [Hid,fstI,fstTo,kStmt,isK,hk]
 rw [hf.out.1,hf.out.2] at HF
 simp only [World.size_alloc,stCells] at HF
 have HSP:Hid (Pl.pStatement ts=Pl.pInsert ts.tail):=by simp [Hid,Pl.pStatement,hk]
 clear hR hR1 hf hk
 go_enter Tryz.func75,Tryz.ntmps75
 go_wp2_with fail
 refine (U HF).mono ?_
 rintro e w1 ⟨rfl,hr1,hk1⟩
 have HK1:=Z ((((Keeps.refl rb w).alloc _).alloc _).trans hk1)
 have HN:=Z (needT 23 (by decide) (by decide) rb s ts.tail 0 false { data:=#[73,78,84,79] } rfl w1 hr1)
 clear hr1 hk1 HF
 go_wp2_with fail
 refine (U HN).mono ?_
 rintro e w2 ⟨rfl,hr2,hk2⟩
 have HK2:=Z (HK1.out.trans hk2)
 have HM:=Z (nameT rb s _ 0 _ w2 hr2)
 clear hr2 hk2 HN HK1
 go_wp2_with fail
 refine (U HM).mono ?_
 rintro e w3 ⟨rfl,hr3,hk3⟩
 have HK3:=Z (HK2.out.trans hk3)
 have hlt3:=hr3.lt
 have hst:∃ T b,RT w3 rb s T 0 b/\(b=false->(Pl.hd ts.tail).k=23/\(Pl.hd ts.tail.tail).k=1/\T=ts.tail.tail.tail)/\(b=true->Pl.pInsert ts.tail=none):=by
  refine ⟨_,_,hr3,?_,?_⟩
  ·intro h
   obtain ⟨h1,h2,h3⟩:=must_ok h
   obtain ⟨_,h4,h5⟩:=must_ok h1
   rw [h5] at h2 h3 ⊢
   exact ⟨h4,h2,h3⟩
  ·intro h
   unfold Pl.pInsert
   rcases must_no h with h1|⟨h1,h2⟩
   ·rcases must_no h1 with h3|⟨_,h3⟩
    ·cases h3
    ·rw [if_neg h3]
   ·obtain ⟨_,h4,h5⟩:=must_ok h1
    rw [h5] at h2
    rw [if_pos h4,if_neg h2]
 obtain ⟨T,b,hrT,hgo,hba⟩:=hst
 have HG:=Z hgo
 have HB:=Z hba
 have hrN:=hrT.alloc (.cells (stCells 105 (Pl.refB (Pl.hd (toK ts.tail 23 false))) (.slice none 0 0) (.slice none 0 0) none (.slice none 0 0) false false 0 0) 111)
 have HW:=Z (needT 24 (by decide) (by decide) rb s T 0 b { data:=#[86,65,76,85,69,83] } rfl _ hrN)
 have hbk:=blk_new w3 (.cells (stCells 105 (Pl.refB (Pl.hd (toK ts.tail 23 false))) (.slice none 0 0) (.slice none 0 0) none (.slice none 0 0) false false 0 0) 111)
 have HBK:=Z hbk
 simp only [stCells] at HW
 generalize hNm:Pl.refB (Pl.hd (toK ts.tail 23 false))=N at *
 have HNm:=Z hNm
 clear hr3 hk3 HM HK2 hgo hba hrN hrT hbk hNm
 go_wp2_with fail
 refine (U HW).mono ?_
 rintro e w4 ⟨rfl,hr4,hk4⟩
 have hbk4:=hk4.blk (by omega) HBK.out
 have HK4:=Z ((HK3.out.alloc _).trans hk4)
 have HO:=Z (needT 7 (by decide) (by decide) rb s _ 0 _ { data:=#[40] } rfl w4 hr4)
 have HBK4:=Z hbk4
 clear hr4 hk4 hbk4 HW HBK
 go_wp2_with fail
 refine (U HO).mono ?_
 rintro e w5 ⟨rfl,hr5,hk5⟩
 have hbk5:=hk5.blk (by omega) HBK4.out
 have HK5:=Z (HK4.out.trans hk5)
 have hst2:∃ T4 b4,RT w5 rb s T4 0 b4/\(b4=false->(Pl.hd ts.tail).k=23/\(Pl.hd ts.tail.tail).k=1/\(Pl.hd ts.tail.tail.tail).k=24/\(Pl.hd ts.tail.tail.tail.tail).k=7/\T4=ts.tail.tail.tail.tail.tail)/\(b4=true->Pl.pInsert ts.tail=none):=by
  refine ⟨_,_,hr5,?_,?_⟩
  ·intro h
   obtain ⟨h1,h2,h3⟩:=must_ok h
   obtain ⟨h4,h5,h6⟩:=must_ok h1
   obtain ⟨g1,g2,rfl⟩:=HG.out h4
   rw [h6] at h2 h3 ⊢
   exact ⟨g1,g2,h5,h2,h3⟩
  ·intro h
   rcases must_no h with h1|⟨h1,h2⟩
   ·rcases must_no h1 with h3|⟨h3,h4⟩
    ·exact HB.out h3
    ·obtain ⟨g1,g2,rfl⟩:=HG.out h3
     unfold Pl.pInsert;rw [if_pos g1,if_pos g2,if_neg h4]
   ·obtain ⟨h4,h5,h6⟩:=must_ok h1
    obtain ⟨g1,g2,rfl⟩:=HG.out h4
    rw [h6] at h2
    unfold Pl.pInsert Pl.inOpen;rw [if_pos g1,if_pos g2,if_pos h5,if_neg h2]
 obtain ⟨T4,b4,hr5',hgo,hba⟩:=hst2
 have HG4:=Z hgo
 have HB4:=Z hba
 have HV:=Z (valuesAny rb s T4 0 (by omega) b4 (fun _=>rfl) w5 hr5')
 generalize hsp4:(if b4=true then none else Pl.listed Pl.iValue T4)=sp4 at HV
 have HSP4:=Z hsp4
 have HBK5:=Z hbk5
 clear hr5 hk5 hbk5 HO HK4 HBK4 hgo hba hr5' hsp4 HG HB
 go_wp2_with fail
 refine (U HV).mono ?_
 rintro e w6 ⟨hk6,va,vn,vc,rfl,hp⟩
 have hbk6:=hk6.blk (by omega) HBK5.out
 have x2:=bC hbk6 2
 have xf:=bF hbk6
 simp [stCells] at x2
 have HK6:=Z (HK5.out.trans hk6)
 have HP:=Z hp
 have hsz:=HK3.out.size
 have hsz5:rb<w5.heap.size:=by have:=HK5.out.size;omega
 have hne:rb≠w3.heap.size:=by omega
 have HBK6:=Z hbk6
 have HKs:=Z (HK6.out.setNew (p:=⟨w3.heap.size,2,none⟩) hsz (.slice va vn vc))
 have hst3:∃ T6 d6 b6,RT w6 rb s T6 d6 b6/\d6<=21/\(b6=false->d6=0/\∃ l,sp4=some (l,T6)/\ItemsW w6 rb (rb+1) l (.slice va vn vc))/\(b6=true->sp4=none):=by
  have hq:=HP.out
  cases sp4 with
  | none =>
   obtain ⟨t6,d6,h1,h2,h3⟩:=hq
   exact ⟨t6,d6,true,h3,h2,(fun h=>by cases h),fun _=>rfl⟩
  | some y =>
   obtain ⟨l,r⟩:=y
   exact ⟨r,0,false,hq.2,by omega,(fun _=>⟨rfl,l,rfl,hq.1.base (by omega)⟩),fun h=>by cases h⟩
 obtain ⟨T6,d6,b6,hr6,hd6,hgo,hba⟩:=hst3
 have HG6:=Z hgo
 have HB6:=Z hba
 have HC:=Z (needT 8 (by decide) (by decide) rb s T6 d6 b6 { data:=#[41] } rfl _ (rt_set hne 2 (.slice va vn vc) hr6))
 clear hk6 hp hbk6 HV hr6 hgo hba HP
 go_wp2_with fail
 refine (U HC).mono ?_
 rintro e w7 ⟨rfl,hr7,hk7⟩
 go_wp2_with fail
 go_ret
 refine ⟨HKs.out.trans hk7,_,rfl,?_⟩
 rw [HSP.out]
 cases hb7:(!isK T6 8 b6)
 ·rw [hb7] at hr7
  obtain ⟨h1,h2,h3⟩:=must_ok hb7
  obtain ⟨hd0,l,hl,hI⟩:=HG6.out h1
  rw [h3] at hr7
  subst hd0
  have hb4:b4=false:=by
   cases b4 with
   | false=>rfl
   | true=>have:=HSP4.out;rw [if_pos rfl,hl] at this;cases this
  subst hb4
  obtain ⟨g1,g2,g3,g4,rfl⟩:=HG4.out rfl
  have hl':Pl.listed Pl.iValue ts.tail.tail.tail.tail.tail=some (l,T6):=by have:=HSP4.out;rw [hl] at this;exact this
  have hn:Pl.pInsert ts.tail=some (Pl.st0 105 (Pl.hd ts.tail.tail).s l .nil,T6.tail):=by
   unfold Pl.pInsert Pl.inOpen
   rw [if_pos g1,if_pos g2,if_pos g3,if_pos g4,hl']
   simp only
   rw [if_pos h2]
  have hN:N=⟨(Pl.hd ts.tail.tail).s.toArray⟩:=by
   rw [<- HNm.out,toK_of ((isK_iff _ _ _).2 ⟨rfl,g1⟩)];simp [Pl.refB,Pl.refS,g2]
  rw [hn]
  have hb:=bS HBK6.out 2 (.slice va vn vc)
  refine ⟨⟨w3.heap.size,.slice va vn vc,.slice none 0 0,.slice none 0 0,none,rfl,hlt3,?_,(hI.setSt HBK6.out 2 _).keeps hk7 (by omega),items_nil _ _,rfl,items_nil _ _⟩,hr7⟩
  have h9:=hk7.blk (Ne.symm hne) hb
  rw [hN] at h9
  simpa [stCells,Pl.st0] using h9
 ·rw [hb7] at hr7
  have hn:Pl.pInsert ts.tail=none:=by
   cases b4 with
   | true=>exact HB4.out rfl
   | false =>
    obtain ⟨g1,g2,g3,g4,rfl⟩:=HG4.out rfl
    have hs:Pl.listed Pl.iValue ts.tail.tail.tail.tail.tail=sp4:=HSP4.out
    unfold Pl.pInsert Pl.inOpen
    rw [if_pos g1,if_pos g2,if_pos g3,if_pos g4,hs]
    rcases must_no hb7 with h1|⟨h1,h2⟩
    ·rw [HB6.out h1]
    ·obtain ⟨_,l,hl,_⟩:=HG6.out h1
     rw [hl]
     simp only
     rw [if_neg h2]
  rw [hn]
  exact ⟨_,d6,hd6,hr7⟩
theorem items_len {w:World}{rb base:Nat}{its:List Pl.It}{a:Option Addr}{n c:Nat}(h:ItemsW w rb base its (.slice a n c)):n=its.length:=by
 obtain ⟨cs,⟨h1,h2⟩,h3⟩:=h
 rcases h2 with ⟨h2,h4⟩|⟨g,cap,cur,hv,_⟩
 ·injection h2 with _ h5 _;omega
 ·injection hv with _ h5 _
theorem stmt_create (rb:Nat)(s:ByteArray)(ts:List Pl.Tok)(w:World)(hR:RT w rb s ts 0 false)(hk:(Pl.hd ts).k=20) :
 Calls Tryz.prog 75 #[.pointer (some ⟨rb,0,none⟩)] w (PostQr w rb s (Pl.pStatement ts)):=by
 have hrb:=hR.lt
 have hR1:=hR.alloc (.cells (stCells 0 { data:=#[] } (.slice none 0 0) (.slice none 0 0) none (.slice none 0 0) false false 0 0) 111)
 have HF:=Z (firstN kStmt 5 rfl _ 5 rb s ts 0 false _ (hR1.alloc (.cells #[.string { data:=#[67,82,69,65,84,69] },.string { data:=#[73,78,83,69,82,84] },.string { data:=#[68,69,76,69,84,69] },.string { data:=#[85,80,68,65,84,69] },.string { data:=#[83,69,76,69,67,84] }] 9)) (strs_stmt _) (by simp;omega) (by omega))
 have hf:Hid (fstI ts false kStmt 0=0/\fstTo ts false kStmt=ts.tail):=by simp [Hid,fstI,fstTo,kStmt,isK,hk]
 rw [hf.out.1,hf.out.2] at HF
 simp only [World.size_alloc,stCells] at HF
 have HSP:Hid (Pl.pStatement ts=Pl.pCreate ts.tail):=by simp [Hid,Pl.pStatement,hk]
 clear hR hR1 hf hk
 go_enter Tryz.func75,Tryz.ntmps75
 go_wp2_with fail
 refine (U HF).mono ?_
 rintro e w1 ⟨rfl,hr1,hk1⟩
 have HK1:=Z ((((Keeps.refl rb w).alloc _).alloc _).trans hk1)
 have HN:=Z (needT 21 (by decide) (by decide) rb s ts.tail 0 false { data:=#[84,65,66,76,69] } rfl w1 hr1)
 clear hr1 hk1 HF
 go_wp2_with fail
 refine (U HN).mono ?_
 rintro e w2 ⟨rfl,hr2,hk2⟩
 have HK2:=Z (HK1.out.trans hk2)
 have HM:=Z (nameT rb s _ 0 _ w2 hr2)
 clear hr2 hk2 HN HK1
 go_wp2_with fail
 refine (U HM).mono ?_
 rintro e w3 ⟨rfl,hr3,hk3⟩
 have HK3:=Z (HK2.out.trans hk3)
 have hlt3:=hr3.lt
 have hst:∃ T b,RT w3 rb s T 0 b/\(b=false->(Pl.hd ts.tail).k=21/\(Pl.hd ts.tail.tail).k=1/\T=ts.tail.tail.tail)/\(b=true->Pl.pCreate ts.tail=none):=by
  refine ⟨_,_,hr3,?_,?_⟩
  ·intro h
   obtain ⟨h1,h2,h3⟩:=must_ok h
   obtain ⟨_,h4,h5⟩:=must_ok h1
   rw [h5] at h2 h3 ⊢
   exact ⟨h4,h2,h3⟩
  ·intro h
   unfold Pl.pCreate
   rcases must_no h with h1|⟨h1,h2⟩
   ·rcases must_no h1 with h3|⟨_,h3⟩
    ·cases h3
    ·rw [if_neg h3]
   ·obtain ⟨_,h4,h5⟩:=must_ok h1
    rw [h5] at h2
    rw [if_pos h4,if_neg h2]
 obtain ⟨T,b,hrT,hgo,hba⟩:=hst
 have HG:=Z hgo
 have HB:=Z hba
 have hrN:=hrT.alloc (.cells (stCells 99 (Pl.refB (Pl.hd (toK ts.tail 21 false))) (.slice none 0 0) (.slice none 0 0) none (.slice none 0 0) false false 0 0) 111)
 have HO:=Z (needT 7 (by decide) (by decide) rb s T 0 b { data:=#[40] } rfl _ hrN)
 have hbk:=blk_new w3 (.cells (stCells 99 (Pl.refB (Pl.hd (toK ts.tail 21 false))) (.slice none 0 0) (.slice none 0 0) none (.slice none 0 0) false false 0 0) 111)
 have HBK:=Z hbk
 simp only [stCells] at HO
 generalize hNm:Pl.refB (Pl.hd (toK ts.tail 21 false))=N at *
 have HNm:=Z hNm
 clear hr3 hk3 HM HK2 hgo hba hrN hrT hbk hNm
 go_wp2_with fail
 refine (U HO).mono ?_
 rintro e w5 ⟨rfl,hr5,hk5⟩
 have hbk5:=hk5.blk (by omega) HBK.out
 have HK5:=Z ((HK3.out.alloc _).trans hk5)
 have hst2:∃ T4 b4,RT w5 rb s T4 0 b4/\(b4=false->(Pl.hd ts.tail).k=21/\(Pl.hd ts.tail.tail).k=1/\(Pl.hd ts.tail.tail.tail).k=7/\T4=ts.tail.tail.tail.tail)/\(b4=true->Pl.pCreate ts.tail=none):=by
  refine ⟨_,_,hr5,?_,?_⟩
  ·intro h
   obtain ⟨h1,h2,h3⟩:=must_ok h
   obtain ⟨g1,g2,rfl⟩:=HG.out h1
   exact ⟨g1,g2,h2,h3⟩
  ·intro h
   rcases must_no h with h1|⟨h1,h2⟩
   ·exact HB.out h1
   ·obtain ⟨g1,g2,rfl⟩:=HG.out h1
    unfold Pl.pCreate Pl.inOpen;rw [if_pos g1,if_pos g2,if_neg h2]
 obtain ⟨T4,b4,hr5',hgo,hba⟩:=hst2
 have HG4:=Z hgo
 have HB4:=Z hba
 have HV:=Z (fields_any rb s T4 0 (by omega) b4 w5 hr5')
 generalize hsp4:(if b4=true then none else Pl.listed Pl.iField T4)=sp4 at HV
 have HSP4:=Z hsp4
 have HBK5:=Z hbk5
 clear hr5 hk5 hbk5 HO HBK hgo hba hr5' hsp4 HG HB
 go_wp2_with fail
 refine (U HV).mono ?_
 rintro e w6 ⟨hk6,va,vn,vc,rfl,hp⟩
 have hbk6:=hk6.blk (by omega) HBK5.out
 have x2:=bC hbk6 2
 have xf:=bF hbk6
 simp [stCells] at x2
 have HK6:=Z (HK5.out.trans hk6)
 have HP:=Z hp
 have hsz:=HK3.out.size
 have hsz5:rb<w5.heap.size:=by have:=HK5.out.size;omega
 have hne:rb≠w3.heap.size:=by omega
 have HBK6:=Z hbk6
 have HKs:=Z (HK6.out.setNew (p:=⟨w3.heap.size,2,none⟩) hsz (.slice va vn vc))
 have hst3:∃ T6 d6 b6,RT w6 rb s T6 d6 b6/\d6<=21/\(b6=false->d6=0/\∃ l,sp4=some (l,T6)/\ItemsW w6 rb (rb+1) l (.slice va vn vc)/\vn=l.length)/\(b6=true->sp4=none):=by
  have hq:=HP.out
  cases sp4 with
  | none =>
   obtain ⟨t6,d6,h1,h2,h3⟩:=hq
   exact ⟨t6,d6,true,h3,h2,(fun h=>by cases h),fun _=>rfl⟩
  | some y =>
   obtain ⟨l,r⟩:=y
   exact ⟨r,0,false,hq.2,by omega,(fun _=>⟨rfl,l,rfl,hq.1.base (by omega),items_len hq.1⟩),fun h=>by cases h⟩
 obtain ⟨T6,d6,b6,hr6,hd6,hgo,hba⟩:=hst3
 have HG6:=Z hgo
 have HB6:=Z hba
 have HC:=Z (needT 8 (by decide) (by decide) rb s T6 d6 b6 { data:=#[41] } rfl _ (rt_set hne 2 (.slice va vn vc) hr6))
 clear hk6 hp hbk6 HV hr6 hgo hba HP
 go_wp2_with fail
 refine (U HC).mono ?_
 rintro e w7 ⟨rfl,hr7,hk7⟩
 have hb7:=hk7.blk (Ne.symm hne) (bS HBK6.out 2 (.slice va vn vc))
 have y2:=bC hb7 2
 simp [stCells] at y2
 have HB7:=Z hb7
 have HK7:=Z (HKs.out.trans hk7)
 have HKk:=Z hk7
 clear hb7 hk7 x2 xf HC
 by_cases h5:5<vn
 ·obtain ⟨r2,r3,rf⟩:=hr7.c
  have HW7:=Z hr7.wrong
  have HN:Hid (Pl.pCreate ts.tail=none):=by
   cases b4 with
   | true=>exact HB4.out rfl
   | false =>
    obtain ⟨g1,g2,g4,rfl⟩:=HG4.out rfl
    have hs:Pl.listed Pl.iField ts.tail.tail.tail.tail=sp4:=HSP4.out
    show Pl.pCreate ts.tail=none
    unfold Pl.pCreate Pl.inOpen
    rw [if_pos g1,if_pos g2,if_pos g4,hs]
    cases hb6:b6 with
    | true=>rw [HB6.out hb6]
    | false =>
     obtain ⟨_,l,hl,_,hlen⟩:=HG6.out hb6
     rw [hl]
     simp only
     split
     ·rfl
     ·rename_i l2 r2 he
      split at he
      ·simp at he;obtain ⟨rfl,rfl⟩:=he;rw [if_pos (by omega)]
      ·cases he
  clear hr7
  go_wp2_with fail
  go_ret
  refine ⟨HK7.out.set _ _,_,rfl,?_⟩
  rw [HSP.out,HN.out]
  exact ⟨_,d6,hd6,HW7.out⟩
 ·have HR7:=Z hr7
  clear hr7
  go_wp2_with fail
  go_ret
  refine ⟨HK7.out,_,rfl,?_⟩
  have hr7:=HR7.out
  rw [HSP.out]
  cases hb7:(!isK T6 8 b6)
  ·rw [hb7] at hr7
   obtain ⟨h1,h2,h3⟩:=must_ok hb7
   obtain ⟨hd0,l,hl,hI,hlen⟩:=HG6.out h1
   rw [h3] at hr7
   subst hd0
   have hb4:b4=false:=by
    cases b4 with
    | false=>rfl
    | true=>have:=HSP4.out;rw [if_pos rfl,hl] at this;cases this
   subst hb4
   obtain ⟨g1,g2,g4,rfl⟩:=HG4.out rfl
   have hl':Pl.listed Pl.iField ts.tail.tail.tail.tail=some (l,T6):=by have:=HSP4.out;rw [hl] at this;exact this
   have hn:Pl.pCreate ts.tail=some (Pl.st0 99 (Pl.hd ts.tail.tail).s l .nil,T6.tail):=by
    unfold Pl.pCreate Pl.inOpen
    rw [if_pos g1,if_pos g2,if_pos g4,hl']
    simp only
    rw [if_pos h2]
    simp only
    rw [if_neg (by omega)]
   have hN:N=⟨(Pl.hd ts.tail.tail).s.toArray⟩:=by
    rw [<- HNm.out,toK_of ((isK_iff _ _ _).2 ⟨rfl,g1⟩)];simp [Pl.refB,Pl.refS,g2]
   rw [hn]
   refine ⟨⟨w3.heap.size,.slice va vn vc,.slice none 0 0,.slice none 0 0,none,rfl,hlt3,?_,(hI.setSt HBK6.out 2 _).keeps HKk.out (by omega),items_nil _ _,rfl,items_nil _ _⟩,hr7⟩
   have h9:=HB7.out
   rw [hN] at h9
   simpa [stCells,Pl.st0] using h9
  ·rw [hb7] at hr7
   have hn:Pl.pCreate ts.tail=none:=by
    cases b4 with
    | true=>exact HB4.out rfl
    | false =>
     obtain ⟨g1,g2,g4,rfl⟩:=HG4.out rfl
     have hs:Pl.listed Pl.iField ts.tail.tail.tail.tail=sp4:=HSP4.out
     unfold Pl.pCreate Pl.inOpen
     rw [if_pos g1,if_pos g2,if_pos g4,hs]
     rcases must_no hb7 with h1|⟨h1,h2⟩
     ·rw [HB6.out h1]
     ·obtain ⟨_,l,hl,_,_⟩:=HG6.out h1
      rw [hl]
      simp only
      rw [if_neg h2]
   rw [hn]
   exact ⟨_,d6,hd6,hr7⟩
theorem stmt_update (rb:Nat)(s:ByteArray)(ts:List Pl.Tok)(w:World)(hR:RT w rb s ts 0 false)(hk:(Pl.hd ts).k=28) :
 Calls Tryz.prog 75 #[.pointer (some ⟨rb,0,none⟩)] w (PostQr w rb s (Pl.pStatement ts)):=by
 have hrb:=hR.lt
 have hR1:=hR.alloc (.cells (stCells 0 { data:=#[] } (.slice none 0 0) (.slice none 0 0) none (.slice none 0 0) false false 0 0) 111)
 have HF:=Z (firstN kStmt 5 rfl _ 5 rb s ts 0 false _ (hR1.alloc (.cells #[.string { data:=#[67,82,69,65,84,69] },.string { data:=#[73,78,83,69,82,84] },.string { data:=#[68,69,76,69,84,69] },.string { data:=#[85,80,68,65,84,69] },.string { data:=#[83,69,76,69,67,84] }] 9)) (strs_stmt _) (by simp;omega) (by omega))
 have hf:Hid (fstI ts false kStmt 0=3/\fstTo ts false kStmt=ts.tail):=by simp [Hid,fstI,fstTo,kStmt,isK,hk]
 rw [hf.out.1,hf.out.2] at HF
 simp only [World.size_alloc,stCells] at HF
 have HSP:Hid (Pl.pStatement ts=Pl.pUpdate ts.tail):=by simp [Hid,Pl.pStatement,hk]
 clear hR hR1 hf hk
 go_enter Tryz.func75,Tryz.ntmps75
 go_wp2_with fail
 refine (U HF).mono ?_
 rintro e w1 ⟨rfl,hr1,hk1⟩
 have HK1:=Z ((((Keeps.refl rb w).alloc _).alloc _).trans hk1)
 have HM:=Z (nameT rb s ts.tail 0 false w1 hr1)
 clear hr1 hk1 HF
 go_wp2_with fail
 refine (U HM).mono ?_
 rintro e w3 ⟨rfl,hr3,hk3⟩
 have HK3:=Z (HK1.out.trans hk3)
 have hlt3:=hr3.lt
 have hrN:=hr3.alloc (.cells (stCells 117 (Pl.refB (Pl.hd ts.tail)) (.slice none 0 0) (.slice none 0 0) none (.slice none 0 0) false false 0 0) 111)
 have HO:=Z (needT 29 (by decide) (by decide) rb s _ 0 _ { data:=#[83,69,84] } rfl _ hrN)
 have hbk:=blk_new w3 (.cells (stCells 117 (Pl.refB (Pl.hd ts.tail)) (.slice none 0 0) (.slice none 0 0) none (.slice none 0 0) false false 0 0) 111)
 have HBK:=Z hbk
 simp only [stCells] at HO
 generalize hNm:Pl.refB (Pl.hd ts.tail)=N at *
 have HNm:=Z hNm
 clear hr3 hk3 HM HK1 hrN hbk hNm
 go_wp2_with fail
 refine (U HO).mono ?_
 rintro e w5 ⟨rfl,hr5,hk5⟩
 have hbk5:=hk5.blk (by omega) HBK.out
 have HK5:=Z ((HK3.out.alloc _).trans hk5)
 have hst2:∃ T4 b4,RT w5 rb s T4 0 b4/\(b4=false->(Pl.hd ts.tail).k=1/\(Pl.hd ts.tail.tail).k=29/\T4=ts.tail.tail.tail)/\(b4=true->Pl.pUpdate ts.tail=none):=by
  refine ⟨_,_,hr5,?_,?_⟩
  ·intro h
   obtain ⟨h1,h2,h3⟩:=must_ok h
   obtain ⟨_,h4,h5⟩:=must_ok h1
   rw [h5] at h2 h3 ⊢
   exact ⟨h4,h2,h3⟩
  ·intro h
   unfold Pl.pUpdate
   rcases must_no h with h1|⟨h1,h2⟩
   ·rcases must_no h1 with h3|⟨_,h3⟩
    ·cases h3
    ·rw [if_neg h3]
   ·obtain ⟨_,h4,h5⟩:=must_ok h1
    rw [h5] at h2
    rw [if_pos h4,if_neg h2]
 obtain ⟨T4,b4,hr5',hgo,hba⟩:=hst2
 have HG4:=Z hgo
 have HB4:=Z hba
 have HV:=Z (sets_any rb s T4 0 (by omega) b4 (fun _=>rfl) w5 hr5')
 generalize hsp4:(if b4=true then none else Pl.listed Pl.iSet T4)=sp4 at HV
 have HSP4:=Z hsp4
 have HBK5:=Z hbk5
 clear hr5 hk5 hbk5 HO HBK hgo hba hr5' hsp4
 go_wp2_with fail
 refine (U HV).mono ?_
 rintro e w6 ⟨hk6,va,vn,vc,rfl,hp⟩
 have hbk6:=hk6.blk (by omega) HBK5.out
 have x2:=bC hbk6 2
 have xf:=bF hbk6
 simp [stCells] at x2
 have HK6:=Z (HK5.out.trans hk6)
 have HP:=Z hp
 have hsz:=HK3.out.size
 have hsz5:rb<w5.heap.size:=by have:=HK5.out.size;omega
 have hne:rb≠w3.heap.size:=by omega
 have HBK6:=Z (bS hbk6 2 (.slice va vn vc))
 have HKs:=Z (HK6.out.setNew (p:=⟨w3.heap.size,2,none⟩) hsz (.slice va vn vc))
 have hst3:∃ T6 d6 b6,RT w6 rb s T6 d6 b6/\d6<=21/\(b6=false->d6=0)/\(b6=false->∃ l,sp4=some (l,T6)/\ItemsW (w6.setCell ⟨w3.heap.size,2,none⟩ (.slice va vn vc)) rb (rb+1) l (.slice va vn vc))/\(b6=true->sp4=none):=by
  have hq:=HP.out
  cases sp4 with
  | none =>
   obtain ⟨t6,d6,h1,h2,h3⟩:=hq
   exact ⟨t6,d6,true,h3,h2,(fun h=>by cases h),(fun h=>by cases h),fun _=>rfl⟩
  | some y =>
   obtain ⟨l,r⟩:=y
   exact ⟨r,0,false,hq.2,by omega,(fun _=>rfl),(fun _=>⟨l,rfl,(hq.1.base (by omega)).setSt hbk6 2 _⟩),fun h=>by cases h⟩
 obtain ⟨T6,d6,b6,hr6,hd6,hb60,hgo,hba⟩:=hst3
 have HG6:=Z hgo
 have HB6:=Z hba
 have HC:=Z (whereAny rb s T6 d6 b6 _ hd6 hb60 (rt_set hne 2 (.slice va vn vc) hr6))
 have HB60:=Z hb60
 clear hk6 hp hbk6 HV hr6 hgo hba HP hb60
 go_wp2_with fail
 refine (U HC).mono ?_
 rintro e w7 ⟨hk7,a,rfl,hp7⟩
 have hb7:=hk7.blk (Ne.symm hne) HBK6.out
 have x4:=bC hb7 4
 have xf7:=bF hb7
 simp [stCells] at x4
 have HB7:=Z hb7
 have HP7:=Z hp7
 have HKk:=Z hk7
 have HK7:=Z (HKs.out.trans hk7)
 clear hb7 hp7 hk7 HC x2 xf
 go_wp2_with fail
 go_ret
 refine ⟨HK7.out.setNew hsz _,_,rfl,?_⟩
 have hq:=HP7.out
 rw [HSP.out]
 cases hv:bsp b6 (Pl.pWhere T6) with
 | none =>
  rw [hv] at hq
  obtain ⟨t8,d8,h1,h2,h3⟩:=hq
  have hn:Pl.pUpdate ts.tail=none:=by
   cases b4 with
   | true=>exact HB4.out rfl
   | false =>
    obtain ⟨g1,g2,rfl⟩:=HG4.out rfl
    have hs:Pl.listed Pl.iSet ts.tail.tail.tail=sp4:=HSP4.out
    unfold Pl.pUpdate
    rw [if_pos g1,if_pos g2,hs]
    cases b6 with
    | true=>rw [HB6.out rfl]
    | false =>
     obtain ⟨l,hl,_⟩:=HG6.out rfl
     have:Pl.pWhere T6=none:=hv
     rw [hl];simp only;rw [this]
  rw [hn]
  exact ⟨t8,d8,h2,rt_set hne 4 _ h3⟩
 | some y =>
  obtain ⟨x,r⟩:=y
  rw [hv] at hq
  cases b6 with
  | true=>cases hv
  | false =>
   obtain ⟨l,hl,hI⟩:=HG6.out (by first|rfl|trivial)
   have hd0:d6=0:=HB60.out (by first|rfl|trivial)
   subst hd0
   have hb4:b4=false:=by
    cases b4 with
    | false=>rfl
    | true=>have:=HSP4.out;rw [if_pos rfl,hl] at this;cases this
   subst hb4
   obtain ⟨g1,g2,rfl⟩:=HG4.out (by first|rfl|trivial)
   have hl':Pl.listed Pl.iSet ts.tail.tail.tail=some (l,T6):=by have:=HSP4.out;rw [hl] at this;exact this
   have hv':Pl.pWhere T6=some (x,r):=hv
   have hn:Pl.pUpdate ts.tail=some (Pl.st0 117 (Pl.hd ts.tail).s l x,r):=by
    unfold Pl.pUpdate
    rw [if_pos g1,if_pos g2,hl']
    simp only
    rw [hv']
   have hN:N=⟨(Pl.hd ts.tail).s.toArray⟩:=by
    rw [<- HNm.out];simp [Pl.refB,Pl.refS,g1]
   rw [hn]
   have h9:=bS HB7.out 4 (.pointer a)
   refine ⟨⟨w3.heap.size,.slice va vn vc,.slice none 0 0,.slice none 0 0,a,rfl,hlt3,?_,(hI.keeps HKk.out (by omega)).setSt HB7.out 4 _,items_nil _ _,RTree.setSt HB7.out 4 _ hq.1,items_nil _ _⟩,rt_set hne 4 _ hq.2⟩
   rw [hN] at h9
   simpa [stCells,Pl.st0] using h9
def QAt (w wx:World)(rb qb:Nat)(s:ByteArray)(T:List Pl.Tok)(d:Nat)(b:Bool)(vi vs vk:Value)(vw:Option Addr)(dis all:Bool)(lim off:Int):Prop :=
 Keeps rb w wx/\RT wx rb s T d b/\d<=21/\(b=false->d=0)/\wx.heap[qb]?=some (.cells (stCells 115 { data:=#[] } vi vs vw vk dis all lim off) 111)
def isSlice (v:Value):Prop:=∃ a n c,v=.slice a n c
theorem RTree.setTok {w:World}{rb xb:Nat}{C:Array Value}(hx:w.heap[xb]?=some (.cells C 151))(o:Nat)(u:Value){t:Pl.T}{v:Value}(h:RTree w rb t v):RTree (w.setCell ⟨xb,o,none⟩ u) rb t v :=
 h.nodes (fun n D hn=>by
  by_cases e:n=xb
  ·subst e;rw [hx] at hn;injection hn with hn;injection hn with _ hn _;exact absurd hn (by decide)
  ·exact blk_set_ne hn e _ _)
theorem ItemsW.setTok {w:World}{rb base xb:Nat}{C:Array Value}(hx:w.heap[xb]?=some (.cells C 151))(o:Nat)(u:Value){its:List Pl.It}{v:Value}(h:ItemsW w rb base its v):ItemsW (w.setCell ⟨xb,o,none⟩ u) rb base its v:=by
 obtain ⟨cs,⟨h1,h2⟩,h3⟩:=h
 refine ⟨cs,⟨h1,?_⟩,h3.mono (fun t v=>RTree.setTok hx o u)⟩
 rcases h2 with h2|⟨g,cap,cur,hv,hg,hh,r⟩
 ·exact .inl h2
 ·refine .inr ⟨g,cap,cur,hv,hg,blk_set_ne hh (fun e=>?_) _ _,r⟩
  subst e;rw [hx] at hh;injection hh with hh;injection hh with _ hh _;exact absurd hh (by decide)
theorem query_good (rb:Nat)(s:ByteArray)(ts:List Pl.Tok)(w:World)(hR:RT w rb s ts 0 false) :
 Calls Tryz.prog 127 #[.pointer (some ⟨rb,0,none⟩)] w (PostQr w rb s (Pl.pQuery ts)):=by
 have hrb:=hR.lt
 have hne:rb≠w.heap.size:=by omega
 have hR1:=hR.alloc (.cells (stCells 115 { data:=#[] } (.slice none 0 0) (.slice none 0 0) none (.slice none 0 0) false false (-1) 0) 111)
 have HF:=Z (fitsT 31 (by decide) (by decide) rb s ts 0 false { data:=#[68,73,83,84,73,78,67,84] } rfl _ hR1)
 simp only [stCells] at HF
 have HBK0:=Z (blk_new w (.cells (stCells 115 { data:=#[] } (.slice none 0 0) (.slice none 0 0) none (.slice none 0 0) false false (-1) 0) 111))
 clear hR hR1
 go_enter Tryz.func127,Tryz.ntmps127
 go_wp2_with fail
 refine (U HF).mono ?_
 rintro e w1 ⟨rfl,hr1,hk1⟩
 have hb1:=hk1.blk (Ne.symm hne) HBK0.out
 have x6:=bC hb1 6
 have xf1:=bF hb1
 simp [stCells] at x6
 have HK1:=Z ((((Keeps.refl rb w).alloc _).trans hk1).setNew (p:=⟨w.heap.size,6,none⟩) (Nat.le_refl _) (.bool (isK ts 31 false)))
 have HB1:=Z (bS hb1 6 (.bool (isK ts 31 false)))
 have HF2:=Z (fitsT 17 (by decide) (by decide) rb s _ 0 false { data:=#[42] } rfl _ (rt_set hne 6 (.bool (isK ts 31 false)) hr1))
 generalize hdis:isK ts 31 false=dis at *
 generalize ht1:toK ts 31 false=t1 at *
 have HD:=Z hdis
 have HT1:=Z ht1
 clear hr1 hk1 hb1 HF HBK0 hdis ht1
 go_wp2_with fail
 refine (U HF2).mono ?_
 rintro e w2 ⟨rfl,hr2,hk2⟩
 have hb2:=hk2.blk (Ne.symm hne) HB1.out
 have x7:=bC hb2 7
 have xf2:=bF hb2
 simp [stCells] at x7
 have HK2:=Z ((HK1.out.trans hk2).setNew (p:=⟨w.heap.size,7,none⟩) (Nat.le_refl _) (.bool (isK t1 17 false)))
 have hb2':=bS hb2 7 (.bool (isK t1 17 false))
 have HR2:=Z (rt_set hne 7 (.bool (isK t1 17 false)) hr2)
 generalize hall:isK t1 17 false=all at *
 generalize ht2:toK t1 17 false=t2 at *
 have HA:=Z hall
 have HT2:=Z ht2
 have hq2:(((w2.setCell ⟨w.heap.size,7,none⟩ (.bool all))).heap[w.heap.size]?)=some (.cells (stCells 115 { data:=#[] } (.slice none 0 0) (.slice none 0 0) none (.slice none 0 0) dis all (-1) 0) 111):=by simpa [stCells] using hb2'
 have HQ2:=Z hq2
 have y7:=bC hq2 7
 simp [stCells] at y7
 clear hr2 hk2 hb2 HF2 HB1 hb2' hall ht2 HK1 x6 xf1
 go_upto_if 24 with fail
 go_cut [] (fun wx=>∃ vi T3 d3 b3,isSlice vi/\Hid (QAt w wx rb w.heap.size s T3 d3 b3 vi (.slice none 0 0) (.slice none 0 0) none dis all (-1) 0/\(b3=false->∃ items,Pl.pTold t1=some ((all,items),T3)/\ItemsW wx rb (rb+1) items vi)/\(b3=true->Pl.pTold t1=none)))
 case first =>
  cases all
  ·have hk17:(Pl.hd t1).k≠17:=by have:=HA.out;simpa [isK] using this
   have h2:t2=t1:=by rw [<- HT2.out];unfold toK;rw [HA.out];rfl
   have HT21:=Z h2
   have HK17:=Z hk17
   have HV:=Z (valuesAny rb s t2 0 (by omega) false (fun _=>rfl) _ HR2.out)
   generalize hsp:(if false=true then none else Pl.listed Pl.iValue t2)=sp at HV
   have HSP:=Z hsp
   have hq2:=HQ2.out
   clear h2 hk17 hsp
   go_wp2_with fail
   refine (U HV).mono ?_
   rintro e w3 ⟨hk3,va,vn,vc,rfl,hp⟩
   have hb3:=hk3.blk (Ne.symm hne) HQ2.out
   have z2:=bC hb3 2
   have zf:=bF hb3
   simp [stCells] at z2
   have HB3:=Z hb3
   have HP:=Z hp
   have HK3:=Z (HK2.out.trans hk3)
   clear hk3 hp hb3 HV
   go_wp2_with fail
   go_meet
   have hq:=HP.out
   have hb4:=bS HB3.out 2 (.slice va vn vc)
   have hs:Pl.listed Pl.iValue t1=sp:=by have:=HSP.out;rw [HT21.out] at this;exact this
   cases sp with
   | none =>
    obtain ⟨t6,d6,h1,h2,h3⟩:=hq
    exact ⟨_,t6,d6,true,⟨_,_,_,rfl⟩,⟨HK3.out.setNew (Nat.le_refl _) _,rt_set hne 2 _ h3,h2,(fun h=>by cases h),by simpa [stCells] using hb4⟩,(fun h=>by cases h),fun _=>by unfold Pl.pTold;rw [if_neg HK17.out,hs]⟩
   | some y =>
    obtain ⟨l,r⟩:=y
    exact ⟨_,r,0,false,⟨_,_,_,rfl⟩,⟨HK3.out.setNew (Nat.le_refl _) _,rt_set hne 2 _ hq.2,by omega,(fun _=>rfl),by simpa [stCells] using hb4⟩,(fun _=>⟨l,by unfold Pl.pTold;rw [if_neg HK17.out,hs],(hq.1.base (by simp [size_set];have:=HK2.out.size;simp [size_set] at this;omega)).setSt HB3.out 2 _⟩),fun h=>by cases h⟩
  ·have hk17:(Pl.hd t1).k=17:=by have:=HA.out;simpa [isK] using this
   have h2:t2=t1.tail:=by rw [<- HT2.out];unfold toK;rw [HA.out];rfl
   have HT21:=Z h2
   have HK17:=Z hk17
   clear h2 hk17
   go_wp2_with fail
   go_meet
   exact ⟨_,t2,0,false,⟨_,_,_,rfl⟩,⟨HK2.out,HR2.out,by omega,(fun _=>rfl),HQ2.out⟩,(fun _=>⟨[],by unfold Pl.pTold;rw [if_pos HK17.out,HT21.out],items_nil _ _⟩),fun h=>by cases h⟩
 case rest =>
  obtain ⟨vi,T3,d3,b3,⟨ia,ic,icp,rfl⟩,HC1⟩:=hcut
  obtain ⟨⟨hk3,hr3,hd3,hb30,hq3⟩,hg3,hn3⟩:=HC1.out
  have HK3:=Z hk3
  have HQ3:=Z hq3
  have HG3:=Z hg3
  have HN3:=Z hn3
  have HB30:=Z hb30
  have HN:=Z (needT 26 (by decide) (by decide) rb s T3 d3 b3 { data:=#[70,82,79,77] } rfl wc hr3)
  clear hk3 hr3 hb30 hq3 hg3 hn3 HC1 HQ2 HR2 HK2 y7 x7 xf2
  go_wp2_with fail
  refine (U HN).mono ?_
  rintro e w4 ⟨rfl,hr4,hk4⟩
  have hq4:=hk4.blk (Ne.symm hne) HQ3.out
  have HQ4:=Z hq4
  have HK4:=Z (HK3.out.trans hk4)
  have hst:∃ T4 b4,RT w4 rb s T4 d3 b4/\(b4=false->d3=0)/\(b4=false->∃ items,Pl.pTold t1=some ((all,items),T3)/\ItemsW w4 rb (rb+1) items (.slice ia ic icp)/\(Pl.hd T3).k=26/\T4=T3.tail)/\(b4=true->Pl.pQuery ts=none)/\Pl.pDis ts=t1/\((Pl.hd ts).k == 31)=dis:=by
   have hd1:((Pl.hd ts).k == 31)=dis:=by rw [<- HD.out];unfold isK;simp
   have ht:Pl.pDis ts=t1:=by rw [<- HT1.out];unfold Pl.pDis toK isK;simp
   refine ⟨_,_,hr4,(fun h=>HB30.out (must_ok h).1),?_,?_,ht,hd1⟩
   ·intro h
    obtain ⟨h1,h2,h3⟩:=must_ok h
    obtain ⟨items,h4,h5⟩:=HG3.out h1
    exact ⟨items,h4,h5.keeps hk4 (by omega),h2,h3⟩
   ·intro h
    rcases must_no h with h1|⟨h1,h2⟩
    ·exact Pl.query_none (by rw [ht];exact HN3.out h1)
    ·obtain ⟨items,h4,h5⟩:=HG3.out h1
     rw [Pl.query_some (by rw [ht];exact h4)]
     unfold Pl.pFrom
     rw [if_neg h2]
  obtain ⟨T4,b4,hr4',hb40,hg4,hn4,hdis,hdi⟩:=hst
  have HV:=Z (sources_any rb s T4 d3 hd3 b4 hb40 w4 hr4')
  generalize hsp:(if b4=true then none else Pl.pSources T4)=sp at HV
  have HSP:=Z hsp
  have HG4:=Z hg4
  have HB40:=Z hb40
  have HN4:=Z hn4
  have HDD:=Z (And.intro hdis hdi)
  have hz4:rb<w4.heap.size:=hr4'.lt
  clear hr4 hr4' hk4 hq4 hb40 hg4 hn4 hdis hdi hsp HN HG3 HN3 HB30 HQ3 HK3 HD HT1 HA HT2
  go_wp2_with fail
  refine (U HV).mono ?_
  rintro e w5 ⟨hk5,va,vn,vc,rfl,hp⟩
  have hq5:=hk5.blk (Ne.symm hne) HQ4.out
  have z3:=bC hq5 3
  have zf:=bF hq5
  simp [stCells] at z3
  have HQ5:=Z hq5
  have HP:=Z hp
  have HK5:=Z (HK4.out.trans hk5)
  have HKk:=Z hk5
  have hq5':=bS hq5 3 (.slice va vn vc)
  have hq5'':(w5.setCell ⟨w.heap.size,3,none⟩ (.slice va vn vc)).heap[w.heap.size]?=some (.cells (stCells 115 { data:=#[] } (.slice ia ic icp) (.slice va vn vc) none (.slice none 0 0) dis all (-1) 0) 111):=by simpa [stCells] using hq5'
  have y3:=bC hq5'' 3
  simp [stCells] at y3
  have HQ5':=Z hq5''
  clear hk5 hp hq5 hq5' hq5'' HV
  have hst:∃ T5 d5 b5,RT (w5.setCell ⟨w.heap.size,3,none⟩ (.slice va vn vc)) rb s T5 d5 b5/\d5<=21/\(b5=false->d5=0)/\(b5=false->∃ items srcs,(Pl.pQuery ts=if 3<srcs.length then none else Pl.pTail dis all items srcs T5)/\ItemsW (w5.setCell ⟨w.heap.size,3,none⟩ (.slice va vn vc)) rb (rb+1) items (.slice ia ic icp)/\ItemsW (w5.setCell ⟨w.heap.size,3,none⟩ (.slice va vn vc)) rb (rb+1) srcs (.slice va vn vc)/\vn=srcs.length)/\(b5=true->Pl.pQuery ts=none):=by
   have hq:=HP.out
   cases hb4:b4 with
   | true =>
    have hs:=HSP.out
    rw [hb4,if_pos rfl] at hs
    rw [<- hs] at hq
    obtain ⟨t6,d6,h1,h2,h3⟩:=hq
    exact ⟨t6,d6,true,rt_set hne 3 _ h3,h2,(fun h=>by cases h),(fun h=>by cases h),fun _=>HN4.out hb4⟩
   | false =>
    have hs:=HSP.out
    rw [hb4,if_neg (by simp)] at hs
    obtain ⟨items,g1,g2,g3,g4⟩:=HG4.out hb4
    subst g4
    have hpq:Pl.pQuery ts=Pl.pFrom1 dis all items sp:=by
     rw [Pl.query_some (by rw [HDD.out.1];exact g1),HDD.out.2]
     unfold Pl.pFrom
     rw [if_pos g3,hs]
    cases sp with
    | none =>
     obtain ⟨t6,d6,h1,h2,h3⟩:=hq
     exact ⟨t6,d6,true,rt_set hne 3 _ h3,h2,(fun h=>by cases h),(fun h=>by cases h),fun _=>hpq⟩
    | some y =>
     obtain ⟨srcs,r⟩:=y
     exact ⟨r,d3,false,rt_set hne 3 _ hq.2,hd3,(fun _=>HB40.out hb4),(fun _=>⟨items,srcs,hpq,(g2.keeps HKk.out (by omega)).setSt HQ5.out 3 _,(hq.1.base (by omega)).setSt HQ5.out 3 _,items_len hq.1⟩),fun h=>by cases h⟩
  obtain ⟨T5,d5,b5,hr5,hd5,hb50,hg5,hn5⟩:=hst
  have HR5:=Z hr5
  have HB50:=Z hb50
  have HG5:=Z hg5
  have HN5:=Z hn5
  have hv5:=hr5.c
  obtain ⟨r52,r53,rf5⟩:=hv5
  clear hr5 hb50 hg5 hn5 HP HG4 HN4 HSP HQ5 HKk
  go_upto_if 42 with fail
  go_cut [] (fun wx=>∃ T6 d6 b6,Hid (QAt w wx rb w.heap.size s T6 d6 b6 (.slice ia ic icp) (.slice va vn vc) (.slice none 0 0) none dis all (-1) 0/\(b6=false->∃ items srcs,Pl.pQuery ts=Pl.pTail dis all items srcs T6/\ItemsW wx rb (rb+1) items (.slice ia ic icp)/\ItemsW wx rb (rb+1) srcs (.slice va vn vc))/\(b6=true->Pl.pQuery ts=none)))
  case first =>
   by_cases h3:3<vn
   ·have HN:Hid (Pl.pQuery ts=none):=by
     cases hb:b5 with
     | true=>exact HN5.out hb
     | false =>
      obtain ⟨items,srcs,h1,_,_,h4⟩:=HG5.out hb
      show Pl.pQuery ts=none
      rw [h1,if_pos (by omega)]
    go_wp2_with fail
    go_meet
    exact ⟨T5,d5,true,⟨(HK5.out.setNew (Nat.le_refl _) _).set _ _,HR5.out.wrong,hd5,(fun h=>by cases h),blk_set_ne HQ5'.out (Ne.symm hne) _ _⟩,(fun h=>by cases h),fun _=>HN.out⟩
   ·go_wp2_with fail
    go_meet
    exact ⟨T5,d5,b5,⟨HK5.out.setNew (Nat.le_refl _) _,HR5.out,hd5,HB50.out,HQ5'.out⟩,(fun h=>by
     obtain ⟨items,srcs,h1,h2,h3',h4⟩:=HG5.out h
     exact ⟨items,srcs,by rw [h1,if_neg (by omega)],h2,h3'⟩),HN5.out⟩
  case rest =>
   obtain ⟨T6,d6,b6,HC2⟩:=hcut
   obtain ⟨⟨hk6,hr6,hd6,hb60,hq6⟩,hg6,hn6⟩:=HC2.out
   have HK6:=Z hk6
   have HQ6:=Z hq6
   have HG6:=Z hg6
   have HB60:=Z hb60
   have HN6:=Z hn6
   have HW:=Z (whereAny rb s T6 d6 b6 _ hd6 hb60 hr6)
   clear hk6 hr6 hb60 hq6 hg6 hn6 HC2 HR5 HB50 HG5 HN5 HQ5' HK5 HQ4 HK4 r52 r53 rf5 y3 z3 zf
   go_wp2_with fail
   refine (U HW).mono ?_
   rintro e w7 ⟨hk7,a,rfl,hp⟩
   have hq7:=hk7.blk (Ne.symm hne) HQ6.out
   have z4:=bC hq7 4
   have zf:=bF hq7
   simp [stCells] at z4
   have HQ7:=Z hq7
   have HP:=Z hp
   have HK7:=Z ((HK6.out.trans hk7).setNew (p:=⟨w.heap.size,4,none⟩) (Nat.le_refl _) (.pointer a))
   have hq7':=bS hq7 4 (.pointer a)
   have hq7'':(w7.setCell ⟨w.heap.size,4,none⟩ (.pointer a)).heap[w.heap.size]?=some (.cells (stCells 115 { data:=#[] } (.slice ia ic icp) (.slice va vn vc) a (.slice none 0 0) dis all (-1) 0) 111):=by simpa [stCells] using hq7'
   have HQ7':=Z hq7''
   have hst:∃ T7 d7 b7,RT (w7.setCell ⟨w.heap.size,4,none⟩ (.pointer a)) rb s T7 d7 b7/\d7<=21/\(b7=false->d7=0)/\(b7=false->∃ items srcs wh,(Pl.pQuery ts=Pl.pTail2 dis all items srcs wh (Pl.pKeys T7))/\ItemsW (w7.setCell ⟨w.heap.size,4,none⟩ (.pointer a)) rb (rb+1) items (.slice ia ic icp)/\ItemsW (w7.setCell ⟨w.heap.size,4,none⟩ (.pointer a)) rb (rb+1) srcs (.slice va vn vc)/\RTree (w7.setCell ⟨w.heap.size,4,none⟩ (.pointer a)) rb wh (.pointer a))/\(b7=true->Pl.pQuery ts=none):=by
    have hq:=HP.out
    cases hv:bsp b6 (Pl.pWhere T6) with
    | none =>
     rw [hv] at hq
     obtain ⟨t8,d8,h1,h2,h3⟩:=hq
     refine ⟨t8,d8,true,rt_set hne 4 _ h3,h2,(fun h=>by cases h),(fun h=>by cases h),fun _=>?_⟩
     cases hb:b6 with
     | true=>exact HN6.out hb
     | false =>
      obtain ⟨items,srcs,h1,_,_⟩:=HG6.out hb
      rw [hb] at hv
      have hv':Pl.pWhere T6=none:=hv
      rw [h1];unfold Pl.pTail;rw [hv'];rfl
    | some y =>
     obtain ⟨x,r⟩:=y
     rw [hv] at hq
     cases hb:b6 with
     | true=>rw [hb] at hv;cases hv
     | false =>
      rw [hb] at hv
      have hv':Pl.pWhere T6=some (x,r):=hv
      obtain ⟨items,srcs,h1,h2,h3⟩:=HG6.out hb
      refine ⟨r,d6,false,rt_set hne 4 _ hq.2,hd6,(fun _=>HB60.out hb),(fun _=>⟨items,srcs,x,?_,(h2.keeps hk7 (by omega)).setSt HQ7.out 4 _,(h3.keeps hk7 (by omega)).setSt HQ7.out 4 _,RTree.setSt HQ7.out 4 _ hq.1⟩),fun h=>by cases h⟩
      rw [h1];unfold Pl.pTail;rw [hv'];rfl
   obtain ⟨T7,d7,b7,hr7,hd7,hb70,hg7,hn7⟩:=hst
   have HF7:=Z (fitsT 36 (by decide) (by decide) rb s T7 d7 b7 { data:=#[79,82,68,69,82] } rfl _ hr7)
   have HB70:=Z hb70
   have HG7:=Z hg7
   have HN7:=Z hn7
   clear hr7 hb70 hg7 hn7 hk7 hq7 hq7' hq7'' hp HW HP HQ7 HG6 HN6 HB60 HQ6 HK6
   go_wp2_with fail
   refine (U HF7).mono ?_
   rintro e w8 ⟨rfl,hr8,hk8⟩
   have HQ8:=Z (hk8.blk (Ne.symm hne) HQ7'.out)
   have HK8:=Z (HK7.out.trans hk8)
   have HKk:=Z hk8
   have HR8:=Z hr8
   have hz8:rb<w8.heap.size:=hr8.lt
   have hz8':=HK8.out.size
   generalize ho:isK T7 36 b7=od at *
   generalize ht8:toK T7 36 b7=T8 at *
   have HOD:=Z ho
   have HT8:=Z ht8
   clear hr8 hk8 HF7 HQ7' HK7 z4 zf ho ht8
   go_upto_if 53 with fail
   go_cut [] (fun wx=>∃ vk T9 d9 b9,isSlice vk/\Hid (QAt w wx rb w.heap.size s T9 d9 b9 (.slice ia ic icp) (.slice va vn vc) vk a dis all (-1) 0/\(b9=false->∃ items srcs wh keys,Pl.pQuery ts=Pl.pLast dis all items srcs wh keys T9/\ItemsW wx rb (rb+1) items (.slice ia ic icp)/\ItemsW wx rb (rb+1) srcs (.slice va vn vc)/\RTree wx rb wh (.pointer a)/\ItemsW wx rb (rb+1) keys vk)/\(b9=true->Pl.pQuery ts=none)))
   case first =>
    cases od
    ·go_wp2_with fail
     go_meet
     have hto:T8=T7:=by rw [<- HT8.out];unfold toK;rw [HOD.out];rfl
     subst hto
     refine ⟨.slice none 0 0,T8,d7,b7,⟨_,_,_,rfl⟩,⟨HK8.out,HR8.out,hd7,HB70.out,HQ8.out⟩,(fun h=>?_),HN7.out⟩
     obtain ⟨items,srcs,wh,h1,h2,h3,h4⟩:=HG7.out h
     have h36:(Pl.hd T8).k≠36:=fun e=>by have:=(isK_iff T8 36 b7).2 ⟨h,e⟩;rw [HOD.out] at this;cases this
     refine ⟨items,srcs,wh,[],?_,h2.keeps HKk.out (by omega),h3.keeps HKk.out (by omega),h4.keeps HKk.out,items_nil _ _⟩
     rw [h1];unfold Pl.pKeys;rw [if_neg h36];rfl
    ·obtain ⟨hb7,h36⟩:=(isK_iff T7 36 b7).1 HOD.out
     subst hb7
     have hto:T8=T7.tail:=by rw [<- HT8.out];exact toK_of HOD.out
     subst hto
     have hd70:d7=0:=HB70.out rfl
     subst hd70
     have HN8:=Z (needT 37 (by decide) (by decide) rb s T7.tail 0 false { data:=#[66,89] } rfl w8 HR8.out)
     have H36:=Z h36
     clear h36 HOD HT8 HB70
     go_wp2_with fail
     refine (U HN8).mono ?_
     rintro e w9 ⟨rfl,hr9,hk9⟩
     have HQ9:=Z (hk9.blk (Ne.symm hne) HQ8.out)
     have HK9:=Z (HK8.out.trans hk9)
     have HKk9:=Z (HKk.out.trans hk9)
     have hz9:=HK9.out.size
     have HV9:=Z (keys_any rb s _ 0 (by omega) _ (fun _=>rfl) w9 hr9)
     generalize hb9:(!isK T7.tail 37 false)=b9 at *
     generalize ht9:toK T7.tail 37 false=T9 at *
     generalize hsp9:(if b9=true then none else Pl.listed Pl.iKey T9)=sp9 at HV9
     have HB9:=Z hb9
     have HT9:=Z ht9
     have HSP9:=Z hsp9
     clear hr9 hk9 HN8 hb9 ht9 hsp9
     go_wp2_with fail
     refine (U HV9).mono ?_
     rintro e wa ⟨hka,ka,kn,kc,rfl,hpa⟩
     have hqa:=hka.blk (Ne.symm hne) HQ9.out
     have z5:=bC hqa 5
     have zfa:=bF hqa
     simp [stCells] at z5
     have HQa:=Z hqa
     have HPa:=Z hpa
     have HKa:=Z (HK9.out.trans hka)
     have HKka:=Z (HKk9.out.trans hka)
     clear hka hpa hqa HV9
     go_wp2_with fail
     go_meet
     have hqb:=bS HQa.out 5 (.slice ka kn kc)
     have hqb':(wa.setCell ⟨w.heap.size,5,none⟩ (.slice ka kn kc)).heap[w.heap.size]?=some (.cells (stCells 115 { data:=#[] } (.slice ia ic icp) (.slice va vn vc) a (.slice ka kn kc) dis all (-1) 0) 111):=by simpa [stCells] using hqb
     have hq:=HPa.out
     obtain ⟨items,srcs,wh,h1,h2,h3,h4⟩:=HG7.out (by first|rfl|trivial)
     have hb37:(b9=false/\(Pl.hd T7.tail).k=37/\T9=T7.tail.tail)\/(b9=true/\(Pl.hd T7.tail).k≠37):=by
      cases hb:b9 with
      | false =>
       have:=HB9.out;rw [hb] at this
       obtain ⟨_,g1,g2⟩:=must_ok this
       exact .inl ⟨rfl,g1,by rw [<- HT9.out];exact g2⟩
      | true =>
       have:=HB9.out;rw [hb] at this
       rcases must_no this with g|⟨_,g⟩
       ·cases g
       ·exact .inr ⟨rfl,g⟩
     rcases hb37 with ⟨rfl,h37,rfl⟩|⟨rfl,h37⟩
     ·have hs:Pl.listed Pl.iKey T7.tail.tail=sp9:=HSP9.out
      have hpq:Pl.pQuery ts=Pl.pTail2 dis all items srcs wh sp9:=by rw [h1];unfold Pl.pKeys;rw [if_pos H36.out,if_pos h37,hs]
      cases sp9 with
      | none =>
       obtain ⟨t6,d6,q1,q2,q3⟩:=hq
       exact ⟨_,t6,d6,true,⟨_,_,_,rfl⟩,⟨HKa.out.setNew (Nat.le_refl _) _,rt_set hne 5 _ q3,q2,(fun h=>by cases h),hqb'⟩,(fun h=>by cases h),fun _=>hpq⟩
      | some y =>
       obtain ⟨l,r⟩:=y
       exact ⟨_,r,0,false,⟨_,_,_,rfl⟩,⟨HKa.out.setNew (Nat.le_refl _) _,rt_set hne 5 _ hq.2,by omega,(fun _=>rfl),hqb'⟩,(fun _=>⟨items,srcs,wh,l,hpq,(h2.keeps HKka.out (by omega)).setSt HQa.out 5 _,(h3.keeps HKka.out (by omega)).setSt HQa.out 5 _,RTree.setSt HQa.out 5 _ (h4.keeps HKka.out),(hq.1.base (by omega)).setSt HQa.out 5 _⟩),fun h=>by cases h⟩
     ·have hs:sp9=none:=HSP9.out.symm
      subst hs
      obtain ⟨t6,d6,q1,q2,q3⟩:=hq
      exact ⟨_,t6,d6,true,⟨_,_,_,rfl⟩,⟨HKa.out.setNew (Nat.le_refl _) _,rt_set hne 5 _ q3,q2,(fun h=>by cases h),hqb'⟩,(fun h=>by cases h),fun _=>by rw [h1];unfold Pl.pKeys;rw [if_pos H36.out,if_neg h37];rfl⟩
   case rest =>
    obtain ⟨vk,T9,d9,b9,⟨ka,kn,kc,rfl⟩,HC3⟩:=hcut
    obtain ⟨⟨hk9,hr9,hd9,hb90,hq9⟩,hg9,hn9⟩:=HC3.out
    have HK9:=Z hk9
    have HQ9:=Z hq9
    have HG9:=Z hg9
    have HN9:=Z hn9
    have HB90:=Z hb90
    have HF9:=Z (fitsT 39 (by decide) (by decide) rb s T9 d9 b9 { data:=#[76,73,77,73,84] } rfl _ hr9)
    clear hk9 hr9 hb90 hq9 hg9 hn9 HC3 HR8 HQ8 HK8 HKk HG7 HN7 HB70
    go_wp2_with fail
    refine (U HF9).mono ?_
    rintro e wa ⟨rfl,hra,hka⟩
    have HQa:=Z (hka.blk (Ne.symm hne) HQ9.out)
    have HKa:=Z (HK9.out.trans hka)
    have HKka:=Z hka
    have hza:rb<wa.heap.size:=hra.lt
    have hsza:=HKa.out.size
    cases hlm:isK T9 39 b9
    ·have hto:toK T9 39 b9=T9:=by unfold toK;rw [hlm];rfl
     rw [hto] at hra
     have HRa:=Z hra
     have HLM:=Z hlm
     clear hra hka hto HF9 hlm
     go_wp2_with fail
     go_ret
     refine ⟨HKa.out,_,rfl,?_⟩
     cases hb:b9 with
     | true =>
      rw [HN9.out hb]
      have:=HRa.out
      rw [hb] at this
      exact ⟨T9,d9,hd9,this⟩
     | false =>
      obtain ⟨items,srcs,wh,keys,h1,h2,h3,h4,h5⟩:=HG9.out hb
      have h39:(Pl.hd T9).k≠39:=fun e=>by have:=(isK_iff T9 39 b9).2 ⟨hb,e⟩;rw [HLM.out] at this;cases this
      have hl:Pl.pLimit T9=some ((-1,0),T9):=by unfold Pl.pLimit;rw [if_neg h39]
      have hn:Pl.pQuery ts=some (⟨115,[],items,srcs,wh,keys,dis,all,-1,0⟩,T9):=by rw [h1];unfold Pl.pLast;rw [hl]
      rw [hn]
      have hd0:=HB90.out hb
      have:=HRa.out
      rw [hb,hd0] at this
      exact ⟨⟨w.heap.size,_,_,_,_,rfl,by omega,HQa.out,h2.keeps HKka.out (by omega),h3.keeps HKka.out (by omega),h4.keeps HKka.out,h5.keeps HKka.out (by omega)⟩,this⟩
    ·obtain ⟨hb9,h39⟩:=(isK_iff T9 39 b9).1 hlm
     subst hb9
     have hto:toK T9 39 false=T9.tail:=toK_of hlm
     have hd90:d9=0:=HB90.out rfl
     subst hd90
     rw [hto] at hra
     obtain ⟨items,srcs,wh,keys,h1,h2,h3,h4,h5⟩:=HG9.out rfl
     have H1:=Z h1
     have HI:=Z (And.intro (h2.keeps hka (by omega)) (And.intro (h3.keeps hka (by omega)) (And.intro (h4.keeps hka) (h5.keeps hka (by omega)))))
     have H39:=Z h39
     have HO:=Z (ofT 2 110 (.inr ⟨rfl,rfl⟩) rb s T9.tail 0 false wa hra)
     clear hra hka hto HF9 hlm h1 h2 h3 h4 h5 h39 HB90 HG9 HN9 HKka
     go_wp2_with fail
     refine (U HO).mono ?_
     rintro e wb ⟨rfl,hrb2,hkb⟩
     have hqb:=hkb.blk (Ne.symm hne) HQa.out
     have z8:=bC hqb 8
     have zf8:=bF hqb
     simp [stCells] at z8
     have HQb:=Z hqb
     have HKb:=Z (HKa.out.trans hkb)
     have HIb:=Z (And.intro (HI.out.1.keeps hkb (by omega)) (And.intro (HI.out.2.1.keeps hkb (by omega)) (And.intro (HI.out.2.2.1.keeps hkb) (HI.out.2.2.2.keeps hkb (by omega)))))
     have hzb:rb<wb.heap.size:=hrb2.lt
     have hszb:=HKb.out.size
     have hqlt:w.heap.size<wb.heap.size:=lB hqb
     generalize hn1:Pl.refN (Pl.hd T9.tail)=n1 at *
     have HN1:=Z hn1
     have hrc:=(rt_set hne 8 (.int .i64 n1) hrb2).alloc (.cells #[.int .u8 (Pl.refK (Pl.hd T9.tail).k),.string (Pl.refB (Pl.hd T9.tail)),.int .i64 n1] 151)
     have HF10:=Z (fitsT 40 (by decide) (by decide) rb s _ 0 _ { data:=#[79,70,70,83,69,84] } rfl _ hrc)
     have hqc':(wb.setCell ⟨w.heap.size,8,none⟩ (.int .i64 n1)).heap[w.heap.size]?=some (.cells (stCells 115 { data:=#[] } (.slice ia ic icp) (.slice va vn vc) a (.slice ka kn kc) dis all n1 0) 111):=by
      have:=bS hqb 8 (.int .i64 n1)
      simpa [stCells] using this
     have HQc:=Z (bA hqc' (.cells #[.int .u8 (Pl.refK (Pl.hd T9.tail).k),.string (Pl.refB (Pl.hd T9.tail)),.int .i64 n1] 151))
     have HKc:=Z ((HKb.out.setNew (p:=⟨w.heap.size,8,none⟩) (Nat.le_refl _) (.int .i64 n1)).alloc (.cells #[.int .u8 (Pl.refK (Pl.hd T9.tail).k),.string (Pl.refB (Pl.hd T9.tail)),.int .i64 n1] 151))
     have kal:=(Keeps.refl rb (wb.setCell ⟨w.heap.size,8,none⟩ (.int .i64 n1))).alloc (.cells #[.int .u8 (Pl.refK (Pl.hd T9.tail).k),.string (Pl.refB (Pl.hd T9.tail)),.int .i64 n1] 151)
     have HIc:=Z (And.intro ((HIb.out.1.setSt hqb 8 (.int .i64 n1)).keeps kal (by omega)) (And.intro ((HIb.out.2.1.setSt hqb 8 (.int .i64 n1)).keeps kal (by omega)) (And.intro ((RTree.setSt hqb 8 (.int .i64 n1) HIb.out.2.2.1).keeps kal) ((HIb.out.2.2.2.setSt hqb 8 (.int .i64 n1)).keeps kal (by omega)))))
     have HTB:=Z (blk_new' (wb.setCell ⟨w.heap.size,8,none⟩ (.int .i64 n1)) (.cells #[.int .u8 (Pl.refK (Pl.hd T9.tail).k),.string (Pl.refB (Pl.hd T9.tail)),.int .i64 n1] 151) wb.heap.size (size_set _ _ _).symm)
     rw [Pl.refTok_eq,hn1]
     generalize Pl.refK (Pl.hd T9.tail).k=K1 at *
     generalize Pl.refB (Pl.hd T9.tail)=B1 at *
     generalize hb11:(!isK T9.tail 2 false)=b11 at *
     generalize ht11:toK T9.tail 2 false=T11 at *
     have HB11:=Z hb11
     have HT11:=Z ht11
     clear hrb2 hkb hqb hrc hqc' kal hb11 ht11 hn1 HO HI HIb HQa HQb HKa HKb
     go_wp2_with fail
     refine (U HF10).mono ?_
     rintro e wd ⟨rfl,hrd,hkd⟩
     have HQd:=Z (hkd.blk (Ne.symm hne) HQc.out)
     have HKd:=Z (HKc.out.trans hkd)
     have HId:=Z (And.intro (HIc.out.1.keeps hkd (by omega)) (And.intro (HIc.out.2.1.keeps hkd (by omega)) (And.intro (HIc.out.2.2.1.keeps hkd) (HIc.out.2.2.2.keeps hkd (by omega)))))
     have HTd:=Z (hkd.blk (by omega) HTB.out)
     have hnumb:b11=false->(Pl.hd T9.tail).k=2/\T11=T9.tail.tail/\n1=(Pl.hd T9.tail).n:=fun h=>by
      have:=HB11.out;rw [h] at this
      obtain ⟨_,g1,g2⟩:=must_ok this
      exact ⟨g1,by rw [<- HT11.out];exact g2,by rw [<- HN1.out];unfold Pl.refN;rw [if_pos g1]⟩
     have hnumn:b11=true->Pl.pLimit T9=none:=fun h=>by
      have:=HB11.out;rw [h] at this
      rcases must_no this with g|⟨_,g⟩
      ·cases g
      ·unfold Pl.pLimit;rw [if_pos H39.out,if_neg g]
     have HNB:=Z hnumb
     have HNN:=Z hnumn
     cases hof:isK T11 40 b11
     ·have hto:toK T11 40 b11=T11:=by unfold toK;rw [hof];rfl
      rw [hto] at hrd
      have HRd:=Z hrd
      have HOF:=Z hof
      clear hrd hkd hto HF10 hof hnumb hnumn
      go_wp2_with fail
      go_ret
      refine ⟨HKd.out,_,rfl,?_⟩
      cases hb:b11 with
      | true =>
       have hn:Pl.pQuery ts=none:=by rw [H1.out];unfold Pl.pLast;rw [HNN.out hb]
       rw [hn]
       have:=HRd.out
       rw [hb] at this
       exact ⟨T11,0,by omega,this⟩
      | false =>
       obtain ⟨g1,g2,g3⟩:=HNB.out hb
       subst g2
       have h40:(Pl.hd T9.tail.tail).k≠40:=fun e=>by have:=(isK_iff T9.tail.tail 40 b11).2 ⟨hb,e⟩;rw [HOF.out] at this;cases this
       have hl:Pl.pLimit T9=some ((n1,0),T9.tail.tail):=by unfold Pl.pLimit;rw [if_pos H39.out,if_pos g1,if_neg h40,g3]
       have hn:Pl.pQuery ts=some (⟨115,[],items,srcs,wh,keys,dis,all,n1,0⟩,T9.tail.tail):=by rw [H1.out];unfold Pl.pLast;rw [hl]
       rw [hn]
       have:=HRd.out
       rw [hb] at this
       exact ⟨⟨w.heap.size,_,_,_,_,rfl,by omega,HQd.out,HId.out.1,HId.out.2.1,HId.out.2.2.1,HId.out.2.2.2⟩,this⟩
     ·obtain ⟨hb11,h40⟩:=(isK_iff T11 40 b11).1 hof
      subst hb11
      have hto:toK T11 40 false=T11.tail:=toK_of hof
      rw [hto] at hrd
      obtain ⟨g1,g2,g3⟩:=HNB.out rfl
      have HG:=Z (And.intro g1 (And.intro g2 g3))
      have H40:=Z h40
      have HO2:=Z (ofT 2 110 (.inr ⟨rfl,rfl⟩) rb s T11.tail 0 false wd hrd)
      clear hrd hkd hto HF10 hof hnumb hnumn g1 g2 g3 h40 HNB HNN HB11 HT11 HN1
      go_wp2_with fail
      refine (U HO2).mono ?_
      rintro e we ⟨rfl,hre,hke⟩
      have hqe:=hke.blk (Ne.symm hne) HQd.out
      have hte:=hke.blk (by omega) HTd.out
      have z9:=bC hqe 9
      have zf9:=bF hqe
      have u0:=bC hte 0
      have u1:=bC hte 1
      have u2:=bC hte 2
      have uf:=bF hte
      simp [stCells] at z9
      simp at u0 u1 u2
      have hqt:¬ w.heap.size=wb.heap.size:=by omega
      have hqt':¬ wb.heap.size=w.heap.size:=by omega
      rw [Pl.refTok_eq]
      generalize hn2:Pl.refN (Pl.hd T11.tail)=n2 at *
      generalize Pl.refK (Pl.hd T11.tail).k=K2 at *
      generalize Pl.refB (Pl.hd T11.tail)=B2 at *
      have HN2:=Z hn2
      have HQe:=Z hqe
      have HTe:=Z hte
      have HRe:=Z hre
      have HKe:=Z (HKd.out.trans hke)
      have HIe:=Z (And.intro (HId.out.1.keeps hke (by omega)) (And.intro (HId.out.2.1.keeps hke (by omega)) (And.intro (HId.out.2.2.1.keeps hke) (HId.out.2.2.2.keeps hke (by omega)))))
      clear hqe hte hre hke hn2 HO2
      go_wp2_with fail
      go_ret
      have hnt:rb≠wb.heap.size:=by omega
      have t0:=HTe.out
      have t1:=bS t0 0 (.int .u8 K2)
      have t2:=bS t1 1 (.string B2)
      have q3:=blk_set_ne (blk_set_ne (blk_set_ne HQe.out hqt 0 (.int .u8 K2)) hqt 1 (.string B2)) hqt 2 (.int .i64 n2)
      have q4:=bS q3 9 (.int .i64 n2)
      have hR:=rt_set hne 9 (.int .i64 n2) (rt_set hnt 2 (.int .i64 n2) (rt_set hnt 1 (.string B2) (rt_set hnt 0 (.int .u8 K2) HRe.out)))
      refine ⟨(((HKe.out.setNew (by omega) _).setNew (by omega) _).setNew (by omega) _).setNew (Nat.le_refl _) _,_,rfl,?_⟩
      obtain ⟨g1,g2,g3⟩:=HG.out
      subst g2
      cases hb:(!isK T9.tail.tail.tail 2 false) with
      | true =>
       have hl:Pl.pLimit T9=none:=by
        rcases must_no hb with g|⟨_,g⟩
        ·cases g
        ·unfold Pl.pLimit;rw [if_pos H39.out,if_pos g1,if_pos H40.out,if_neg g]
       have hn:Pl.pQuery ts=none:=by rw [H1.out];unfold Pl.pLast;rw [hl]
       rw [hn]
       rw [hb] at hR
       exact ⟨_,0,by omega,hR⟩
      | false =>
       obtain ⟨_,g4,g5⟩:=must_ok hb
       have hn2:n2=(Pl.hd T9.tail.tail.tail).n:=by rw [<- HN2.out];unfold Pl.refN;rw [if_pos g4]
       have hl:Pl.pLimit T9=some ((n1,n2),T9.tail.tail.tail.tail):=by unfold Pl.pLimit;rw [if_pos H39.out,if_pos g1,if_pos H40.out,if_pos g4,g3,hn2]
       have hn:Pl.pQuery ts=some (⟨115,[],items,srcs,wh,keys,dis,all,n1,n2⟩,T9.tail.tail.tail.tail):=by rw [H1.out];unfold Pl.pLast;rw [hl]
       rw [hn]
       rw [hb,g5] at hR
       refine ⟨⟨w.heap.size,.slice ia ic icp,.slice va vn vc,.slice ka kn kc,a,rfl,by omega,by simpa [stCells] using q4,?_,?_,?_,?_⟩,hR⟩
       ·exact (((HIe.out.1.setTok t0 0 _).setTok t1 1 _).setTok t2 2 _).setSt q3 9 _
       ·exact (((HIe.out.2.1.setTok t0 0 _).setTok t1 1 _).setTok t2 2 _).setSt q3 9 _
       ·exact RTree.setSt q3 9 _ (RTree.setTok t2 2 _ (RTree.setTok t1 1 _ (RTree.setTok t0 0 _ HIe.out.2.2.1)))
       ·exact (((HIe.out.2.2.2.setTok t0 0 _).setTok t1 1 _).setTok t2 2 _).setSt q3 9 _
theorem stmt_select (rb:Nat)(s:ByteArray)(ts:List Pl.Tok)(w:World)(hR:RT w rb s ts 0 false)(hk:(Pl.hd ts).k=30) :
 Calls Tryz.prog 75 #[.pointer (some ⟨rb,0,none⟩)] w (PostQr w rb s (Pl.pStatement ts)):=by
 have hrb:=hR.lt
 have hR1:=hR.alloc (.cells (stCells 0 { data:=#[] } (.slice none 0 0) (.slice none 0 0) none (.slice none 0 0) false false 0 0) 111)
 have HF:=Z (firstN kStmt 5 rfl _ 5 rb s ts 0 false _ (hR1.alloc (.cells #[.string { data:=#[67,82,69,65,84,69] },.string { data:=#[73,78,83,69,82,84] },.string { data:=#[68,69,76,69,84,69] },.string { data:=#[85,80,68,65,84,69] },.string { data:=#[83,69,76,69,67,84] }] 9)) (strs_stmt _) (by simp;omega) (by omega))
 have hf:Hid (fstI ts false kStmt 0=4/\fstTo ts false kStmt=ts.tail):=by simp [Hid,fstI,fstTo,kStmt,isK,hk]
 rw [hf.out.1,hf.out.2] at HF
 simp only [World.size_alloc,stCells] at HF
 have HSP:Hid (Pl.pStatement ts=Pl.pQuery ts.tail):=by simp [Hid,Pl.pStatement,hk]
 clear hR hR1 hf hk
 go_enter Tryz.func75,Tryz.ntmps75
 go_wp2_with fail
 refine (U HF).mono ?_
 rintro e w1 ⟨rfl,hr1,hk1⟩
 have HK1:=Z ((((Keeps.refl rb w).alloc _).alloc _).trans hk1)
 have HN:=Z (query_good rb s ts.tail w1 hr1)
 clear hr1 hk1 HF
 go_wp2_with fail
 refine (U HN).mono ?_
 rintro e w2 ⟨hk2,a,rfl,hp⟩
 go_wp2_with fail
 go_ret
 exact ⟨HK1.out.trans hk2,a,rfl,by rw [HSP.out];exact hp⟩
theorem stmt_none (rb:Nat)(s:ByteArray)(ts:List Pl.Tok)(w:World)(hR:RT w rb s ts 0 false)(hk:(Pl.hd ts).k≠20/\(Pl.hd ts).k≠22/\(Pl.hd ts).k≠25/\(Pl.hd ts).k≠28/\(Pl.hd ts).k≠30) :
 Calls Tryz.prog 75 #[.pointer (some ⟨rb,0,none⟩)] w (PostQr w rb s (Pl.pStatement ts)):=by
 have hrb:=hR.lt
 have hR1:=hR.alloc (.cells (stCells 0 { data:=#[] } (.slice none 0 0) (.slice none 0 0) none (.slice none 0 0) false false 0 0) 111)
 have HF:=Z (firstN kStmt 5 rfl _ 5 rb s ts 0 false _ (hR1.alloc (.cells #[.string { data:=#[67,82,69,65,84,69] },.string { data:=#[73,78,83,69,82,84] },.string { data:=#[68,69,76,69,84,69] },.string { data:=#[85,80,68,65,84,69] },.string { data:=#[83,69,76,69,67,84] }] 9)) (strs_stmt _) (by simp;omega) (by omega))
 have hf:Hid (fstI ts false kStmt 0=-1/\fstTo ts false kStmt=ts):=by simp [Hid,fstI,fstTo,kStmt,isK,hk]
 rw [hf.out.1,hf.out.2] at HF
 simp only [World.size_alloc,stCells] at HF
 have HSP:Hid (Pl.pStatement ts=none):=by simp [Hid,Pl.pStatement,hk]
 clear hR hR1 hf hk
 go_enter Tryz.func75,Tryz.ntmps75
 go_wp2_with fail
 refine (U HF).mono ?_
 rintro e w1 ⟨rfl,hr1,hk1⟩
 have HK1:=Z ((((Keeps.refl rb w).alloc _).alloc _).trans hk1)
 obtain ⟨r2,r3,rf⟩:=hr1.c
 have HR1:=Z hr1.wrong
 clear hr1 hk1 HF
 go_wp2_with fail
 go_ret
 exact ⟨HK1.out.set _ _,_,rfl,by rw [HSP.out];exact ⟨_,0,by omega,HR1.out⟩⟩
theorem statement_good (rb:Nat)(s:ByteArray)(ts:List Pl.Tok)(w:World)(hR:RT w rb s ts 0 false) :
 Calls Tryz.prog 75 #[.pointer (some ⟨rb,0,none⟩)] w (PostQr w rb s (Pl.pStatement ts)):=by
 by_cases h1:(Pl.hd ts).k=20
 ·exact stmt_create rb s ts w hR h1
 by_cases h2:(Pl.hd ts).k=22
 ·exact stmt_insert rb s ts w hR h2
 by_cases h3:(Pl.hd ts).k=25
 ·exact stmt_delete rb s ts w hR h3
 by_cases h4:(Pl.hd ts).k=28
 ·exact stmt_update rb s ts w hR h4
 by_cases h5:(Pl.hd ts).k=30
 ·exact stmt_select rb s ts w hR h5
 exact stmt_none rb s ts w hR ⟨h1,h2,h3,h4,h5⟩
theorem StW.keeps {w w':World}{rb:Nat}{st:Pl.St}{a:Option Addr}(hk:Keeps rb w w')(h:StW w rb st a):StW w' rb st a:=by
 obtain ⟨p,vi,vs,vk,vw,h1,h2,h3,h4,h5,h6,h7⟩:=h
 exact ⟨p,vi,vs,vk,vw,h1,h2,hk.blk (by omega) h3,h4.keeps hk (by omega),h5.keeps hk (by omega),h6.keeps hk,h7.keeps hk (by omega)⟩
theorem refK_e (k:Nat):(Pl.refK k != 101)=!(k == 0):=by
 unfold Pl.refK
 repeat' split
 all_goals (simp;try omega)
def PostP (w:World)(l:List UInt8)(e:Ending)(w':World):Prop :=
 Below w.heap.size w w'/\∃ a:Option Addr,e=.returned (.pointer a)/\match Pl.pParse l with
  | some st=>∃ rb,w.heap.size<=rb/\StW w' rb st a
  | none=>a=none
theorem parse_any (s:ByteArray)(w:World)(hs:s.size<=1048576) :
 Calls Tryz.prog 47 #[.string s] w (PostP w s.data.toList):=by
 by_cases h600:600<s.size
 ·have HN:Hid (Pl.pParse s.data.toList=none):=by
   show Pl.pParse s.data.toList=none
   unfold Pl.pParse;rw [if_pos (by simpa using h600)]
  go_enter Tryz.func47,Tryz.ntmps47
  go_wp2_with fail
  go_ret
  exact ⟨Below.refl _ _,none,rfl,by rw [HN.out]⟩
 ·have hR:RT (w.alloc (.cells #[.string s,.int .i64 0,.int .i64 0,.bool false] 148)) w.heap.size s (Pl.toks s.data.toList) 0 false:=⟨0,by omega,hs,blk_new w _,by rw [Pl.from_zero]⟩
  have HC:=Z (statement_good w.heap.size s _ _ hR)
  have HPP:Hid (Pl.pParse s.data.toList=Pl.pEnd (Pl.pStatement (Pl.toks s.data.toList))):=by
   show Pl.pParse s.data.toList=_
   unfold Pl.pParse;rw [if_neg (by simpa using h600)]
  clear hR
  go_enter Tryz.func47,Tryz.ntmps47
  go_wp2_with fail
  refine (U HC).mono ?_
  rintro e w1 ⟨hk1,a,rfl,hp⟩
  have hst:∃ T d b,RT w1 w.heap.size s T d b/\(b=false->∃ st,Pl.pStatement (Pl.toks s.data.toList)=some (st,T)/\StW w1 w.heap.size st a)/\(b=true->Pl.pStatement (Pl.toks s.data.toList)=none):=by
   cases hv:Pl.pStatement (Pl.toks s.data.toList) with
   | none =>
    rw [hv] at hp
    obtain ⟨t,d,_,h⟩:=hp
    exact ⟨t,d,true,h,(fun h=>by cases h),fun _=>rfl⟩
   | some y =>
    obtain ⟨st,r⟩:=y
    rw [hv] at hp
    exact ⟨r,0,false,hp.2,(fun _=>⟨st,rfl,hp.1⟩),fun h=>by cases h⟩
  obtain ⟨T,d,b,hr1,hg,hn⟩:=hst
  have HG:=Z hg
  have HN:=Z hn
  have HF:=Z (fitsT 11 (by decide) (by decide) w.heap.size s T d b { data:=#[59] } rfl w1 hr1)
  have HK1:=Z (((Keeps.refl w.heap.size (w.alloc (.cells #[.string s,.int .i64 0,.int .i64 0,.bool false] 148)))).trans hk1)
  clear hk1 hp hr1 hg hn HC
  go_wp2_with fail
  refine (U HF).mono ?_
  rintro e w2 ⟨rfl,⟨p,hp1,_,hrs,htk⟩,hk2⟩
  obtain ⟨g0,g1,g2,g3,gf⟩:=hrs.c
  have HTK:=Z htk
  have HK2:=Z (HK1.out.trans hk2)
  have HKk:=Z hk2
  have HRS:=Z hrs
  have hlt:=lB hrs
  clear hrs htk hk2 HF HK1
  go_wp2_with fail
  refine (look_any s p _ hp1 hs).mono ?_
  rintro e w3 ⟨q,rfl,hpq,hqs,hq,hb3⟩
  have hrs3:RS w3 w.heap.size s p d b:=bB hb3 hlt HRS.out
  obtain ⟨k0,k1,k2,k3,kf⟩:=hrs3.c
  have HB3:=Z hb3
  rw [Pl.refTok_eq]
  have hhd:=Pl.toks_hd (Pl.from_ s p)
  rw [HTK.out] at hhd
  rw [<- hhd]
  have hz:w2.heap.size<=w3.heap.size:=hb3.size
  clear hb3 hrs3 hq g0 g1 g2 g3 gf hhd
  have hb0:Below w.heap.size w w3:=by
   have h1:=HK2.out
   have h2:Below w.heap.size w w2:=((Below.refl w.heap.size w).alloc (Nat.le_refl _) _).trans ⟨h1.os,h1.tape,h1.output,h1.size,fun k hk=>h1.block k (by simp;omega) (by omega)⟩
   exact h2.trans (HB3.out.mono (by have:=HK2.out.size;simp at this;omega))
  have hz3:w.heap.size<w3.heap.size:=by omega
  have HB0:=Z hb0
  cases b
  ·have hto:toK T 11 false=Pl.pSemi T:=by unfold toK Pl.pSemi isK;simp
   rw [hto]
   cases he:((Pl.hd (Pl.pSemi T)).k == 0)
   ·have e1:(Pl.refK (Pl.hd (Pl.pSemi T)).k != 101)=true:=by rw [refK_e,he];rfl
    have HNn:Hid (Pl.pParse s.data.toList=none):=by
     obtain ⟨st,h1,_⟩:=HG.out rfl
     show Pl.pParse s.data.toList=none
     rw [HPP.out,h1]
     unfold Pl.pEnd
     simp only
     rw [if_neg (by simpa using he)]
    clear hb0
    go_wp2_with fail
    go_ret
    exact ⟨HB0.out.alloc (by omega) _,none,rfl,by rw [HNn.out]⟩
   ·have e1:(Pl.refK (Pl.hd (Pl.pSemi T)).k != 101)=false:=by rw [refK_e,he];rfl
    obtain ⟨st,h1,h2⟩:=HG.out rfl
    have HNn:Hid (Pl.pParse s.data.toList=some st):=by
     show Pl.pParse s.data.toList=some st
     rw [HPP.out,h1]
     unfold Pl.pEnd
     simp only
     rw [if_pos (by simpa using he)]
    have HST:=Z (h2.keeps ((HKk.out.below HB3.out).alloc (.cells #[.int .u8 (Pl.refK (Pl.hd (Pl.pSemi T)).k),.string (Pl.refB (Pl.hd (Pl.pSemi T))),.int .i64 (Pl.refN (Pl.hd (Pl.pSemi T)))] 151)))
    clear hb0 h1 h2
    go_wp2_with fail
    go_ret
    exact ⟨HB0.out.alloc (by omega) _,a,rfl,by rw [HNn.out];exact ⟨w.heap.size,Nat.le_refl _,HST.out⟩⟩
  ·have HNn:Hid (Pl.pParse s.data.toList=none):=by
    show Pl.pParse s.data.toList=none
    rw [HPP.out,HN.out rfl];rfl
   clear hb0
   go_wp2_with fail
   go_ret
   exact ⟨HB0.out.alloc (by omega) _,none,rfl,by rw [HNn.out]⟩
end Go.Proofs.YtojdpjpldokjmaaGreatDoor
