/- The code's CREATE TABLE. -/
import Derived.Test.YtojdpjpldokjmaaGreatDoorF13
set_option maxHeartbeats 60000000
set_option maxRecDepth 100000
namespace Go.Proofs.YtojdpjpldokjmaaGreatDoor
open Go.RowKit Go.Deep
set_option linter.unusedSimpArgs false
set_option linter.unusedVariables false
theorem DbW.own_box {w:World}{M:Nat->Prop}{b:Nat}{lay:List Lay}{D:Pl.DB}(h:DbW w M b lay D){tv:Value}(hb:w.heap[b]?=some (.cells #[tv] 77)):w.ownsRow 0 87 1 tv D.length (lay.map layPtr)/\∀ k,tv.ownBlock=some k->M k:=by
 obtain ⟨tv',h1,h2,h3⟩:=h.box
 rw [hb] at h1
 injection h1 with h1
 injection h1 with h1 _ _
 have:tv=tv':=by simpa using h1
 subst this
 exact ⟨h2,h3⟩
theorem db_push {lo:Nat}{w w3 w4:World}{M:Nat->Prop}{b:Nat}{lay:List Lay}{D:Pl.DB}(h:DbW w M b lay D){name:List UInt8}{cols:List (List UInt8 × Int)}{nb base:Nat}{tv cv v':Value}(hb:Below w.heap.size w w3)(hnb:w3.heap[nb]?=some (.cells #[.string ⟨name.toArray⟩,cv,.slice none 0 0] 94))(hnew:w.heap.size<=nb)
 (hcv:w.ownsRow base 97 2 cv cols.length (tcsC cols)) (hcl:∀ k,cv.ownBlock=some k->lo<=k) (hlo:lo<=w.heap.size) (hbx:w.heap[b]?=some (.cells #[tv] 77))
 (hown:w4.ownsRow 0 87 1 v' (D.length+1) (lay.map layPtr++[.pointer (some ⟨nb,0,none⟩)])) (hg:w3.grownBy w4 tv.ownBlock) (ho:∀ k,v'.ownBlock=some k->tv.ownBlock=some k\/w3.heap.size<=k) (hok:Pl.okDB (D++[⟨name,cols,[]⟩])) :
 w4.heap[b]?=some (.cells #[tv] 77)/\DbStep lo w M b (D++[⟨name,cols,[]⟩]) (w4.setCell ⟨b,0,none⟩ v') (fun k=>grown M w w4 k\/cv.ownBlock=some k) (lay++[⟨nb,.slice none 0 0,[]⟩]):=by
 obtain ⟨ho1,ho2⟩:=h.own_box hbx
 have hz3:=hb.size
 have hz4:=hg.size
 have hbz:=lB hbx
 have hnbz:=lB hnb
 have hk4:∀ k,k<w.heap.size->tv.ownBlock≠some k->w4.heap[k]?=w.heap[k]?:=fun k hk hne=>by
  rw [hg.block k (by omega) (fun e=>hne e.symm),hb.block k hk]
 have htb:tv.ownBlock≠some b:=fun e=>by
  obtain ⟨C,m,hc⟩:=own_ty ho1 e
  exact ty_ne hc hbx (by decide) rfl
 have hb4:w4.heap[b]?=some (.cells #[tv] 77):=(hk4 b hbz htb).trans hbx
 refine ⟨hb4,?_⟩
 have hkeep:∀ k,k<w.heap.size->k≠b->tv.ownBlock≠some k->(w4.setCell ⟨b,0,none⟩ v').heap[k]?=w.heap[k]?:=fun k hk hne hne2=>by
  rw [Below.heap_setCell _ _ _ _ hne];exact hk4 k hk hne2
 have hne:∀ {e:TypeId} {k:Nat} {C:Array Value} {m:Nat × Nat},w.heap[k]?=some (.cells C e m)->e≠77->e≠87->k≠b/\tv.ownBlock≠some k:=by
  intro e k C m hk h1 h2
  refine ⟨ty_ne hk hbx h1,fun e'=>?_⟩
  obtain ⟨C',m',h'⟩:=own_ty ho1 e'
  exact ty_ne hk h' h2 rfl
 have hkO:∀ {base:Nat} {e:TypeId} {size n:Nat} {v:Value} {xs:List Value},w.ownsRow base e size v n xs->e≠77->e≠87->∀ k,v.ownBlock=some k->(w4.setCell ⟨b,0,none⟩ v').heap[k]?=w.heap[k]?:=by
  intro base e size n v xs hov h1 h2 k hk
  obtain ⟨C,m,hc⟩:=own_ty hov hk
  obtain ⟨a1,a2⟩:=hne hc h1 h2
  exact hkeep k (hov.lt k hk).2 a1 a2
 have hM:∀ k,M k->(fun k=>grown M w w4 k\/cv.ownBlock=some k) k:=fun k hk=>.inl (.inl hk)
 have hnb4:(w4.setCell ⟨b,0,none⟩ v').heap[nb]?=some (.cells #[.string ⟨name.toArray⟩,cv,.slice none 0 0] 94):=by
  rw [Below.heap_setCell _ _ _ _ (show nb≠b by omega),hg.block nb hnbz (fun e=>by have:=(ho1.lt nb e.symm).2;omega)]
  exact hnb
 have hv4:∀ k,v'.ownBlock=some k->k≠b:=fun k hk e=>by
  subst e
  rcases ho _ hk with h0|h0
  ·exact htb h0
  ·omega
 refine ⟨⟨fun k hk=>?_,hM _ h.own,⟨v',?_,?_,fun k hk=>?_⟩,?_,?_,?_,hok⟩,hM,fun k hk=>?_,?_⟩
 ·rw [size_set]
  rcases hk with (hk|hk)|hk
  ·have:=h.lt k hk;omega
  ·exact hk.2
  ·have:=(hcv.lt k hk).2;omega
 ·have:=bS hb4 0 v'
  simpa using this
 ·simp only [List.length_append,List.length_singleton,List.map_append]
  exact own_at hown (fun k hk=>Below.heap_setCell _ _ _ _ (hv4 k hk))
 ·rcases ho k hk with h0|h0
  ·exact hM k (ho2 k h0)
  ·exact .inl (.inr ⟨by omega,(hown.lt k hk).2⟩)
 ·simp [h.len]
 ·intro i l t hl ht
  by_cases hi:i<lay.length
  ·rw [List.getElem?_append_left hi] at hl
   rw [List.getElem?_append_left (by rw [<- h.len];exact hi)] at ht
   obtain ⟨g1,⟨cw,g2,g3,g4⟩,g5,g6,g7,g8⟩:=h.tabs i l t hl ht
   obtain ⟨a1,a2⟩:=hne g2 (by decide) (by decide)
   exact ⟨hM _ g1,⟨cw,(hkeep _ (h.lt _ g1) a1 a2).trans g2,own_at g3 (hkO g3 (by decide) (by decide)),fun k hk=>hM k (g4 k hk)⟩,own_at g5 (hkO g5 (by decide) (by decide)),fun k hk=>hM k (g6 k hk),g7,fun x r u hr hu=>(g8 x r u hr hu).keep hM (hkO (g8 x r u hr hu).1 (by decide) (by decide))⟩
  ·have hi1:=getElem?_lt hl
   simp at hi1
   have hi2:i=lay.length:=by omega
   subst hi2
   simp at hl
   rw [h.len] at ht
   simp at ht
   subst hl;subst ht
   refine ⟨.inl (.inr ⟨hnew,by show nb<_;omega⟩),⟨cv,hnb4,own_at (own_base hcv (Nat.zero_le _)) (hkO hcv (by decide) (by decide)),fun k hk=>.inr hk⟩,World.ownsRow_nil _ _ _ _,fun k hk=>(by cases hk),fun _=>rfl,fun x r u hr hu=>(by simp at hr)⟩
 ·intro i j l m hij hl hm
  have hlow:∀ (x:Nat) (lx:Lay),lay[x]?=some lx->lx.n<w.heap.size/\∀ k,lx.rv.ownBlock=some k->k<w.heap.size:=fun x lx hx=>by
   have hx':x<D.length:=by rw [<- h.len];exact getElem?_lt hx
   have:=h.tabs x lx _ hx (List.getElem?_eq_getElem hx')
   exact ⟨h.lt _ this.own,fun k hk=>h.lt k (this.rowsM k hk)⟩
  by_cases hi:i<lay.length
  ·rw [List.getElem?_append_left hi] at hl
   by_cases hj:j<lay.length
   ·rw [List.getElem?_append_left hj] at hm
    exact h.apart i j l m hij hl hm
   ·have hj1:=getElem?_lt hm
    simp at hj1
    have hj2:j=lay.length:=by omega
    subst hj2
    simp at hm;subst hm
    exact ⟨by have:=(hlow i l hl).1;show l.n≠nb;omega,fun k _=>by simp [Value.ownBlock]⟩
  ·have hi1:=getElem?_lt hl
   simp at hi1
   have hi2:i=lay.length:=by omega
   subst hi2
   simp at hl;subst hl
   have hj:j<lay.length:=by have:=getElem?_lt hm;simp at this;omega
   rw [List.getElem?_append_left hj] at hm
   exact ⟨by have:=(hlow j m hm).1;show nb≠m.n;omega,fun k hk=>by simp [Value.ownBlock] at hk⟩
 ·rcases hk with (hk|hk)|hk
  ·exact .inl hk
  ·exact .inr (by omega)
  ·exact .inr (hcl k hk)
 ·exact ⟨hg.os.trans hb.os,hg.tape.trans hb.tape,hg.output.trans hb.output,by rw [size_set];omega,fun k hk=>hkeep k hk.1 (fun e=>hk.2 (e ▸ h.own)) (fun e=>hk.2 (ho2 k e))⟩
theorem Tryz.infoTab:(Tryz.prog.info? 87).map (fun i=>(i.zero,i.size,i.bytes))=some (some (.pointer none),1,8):=by kernel_rfl
def PostCr (lo:Nat)(w:World)(M:Nat->Prop)(b:Nat)(o:Pl.DB × Pl.Ans)(e:Ending)(w':World):Prop :=
 e=.returned (.int .i64 (o.2.err:Nat))/\∃ M' lay',DbStep lo w M b o.1 w' M' lay'
def colsOf (s:Pl.St):List (List UInt8 × Int):=s.items.map (fun i=>(i.name,i.type))
theorem createM (lo:Nat)(s:Pl.St)(hs:Pl.okSt s)(hk:s.kind=99)(n base:Nat)(cv:Value)(w:World)(M:Nat->Prop)(b:Nat)(lay:List Lay)(D:Pl.DB)(h:DbW w M b lay D)(hlo:lo<=w.heap.size)
 (hn:w.heap[n]?=some (.cells #[.string ⟨s.table.toArray⟩,cv] 190)) (hcv:w.ownsRow base 97 2 cv (colsOf s).length (tcsC (colsOf s))) (hcl:∀ k,cv.ownBlock=some k->lo<=k) :
 Calls Tryz.prog 65 #[.pointer (some ⟨b,0,none⟩),.pointer (some ⟨n,0,none⟩)] w (PostCr lo w M b (Pl.doCreate D s)):=by
 have HS:=Z hs
 have hnz:=lB hn
 have n0:=bC hn 0
 have n1:=bC hn 1
 simp at n0 n1
 have hl5:(colsOf s).length<=5:=by simp [colsOf];exact (hs.create hk).1
 have HF:=Z (findM s.table w M b lay D h)
 have HTw:=Z (nameTwiceM (colsOf s) cv base w hcv (by omega))
 have HN:=Z hn
 have HX:=Z h
 have HCv:=Z hcv
 have HCl:=Z hcl
 obtain ⟨ca,cc,rfl,hcap⟩:=own_cap hcv
 have hnm:nmsOf (colsOf s)=s.items.map (·.name):=by simp [nmsOf,colsOf]
 rw [hnm] at HTw
 generalize hD2:Pl.doCreate D s=out
 have HD2:=Z hD2
 have HNo:Hid (∀ er w',out=(D,Pl.no er)->Below w.heap.size w w'->PostCr lo w M b out (.returned (.int .i64 (er:Nat))) w'):=fun er w' ho hb=>by
  rw [ho];exact ⟨rfl,M,lay,DbStep.below h hb⟩
 have HYes:Hid (∀ w' M' lay' D',out=(D',Pl.no 0)->DbStep lo w M b D' w' M' lay'->PostCr lo w M b out (.returned (.int .i64 0)) w'):=fun w' M' lay' D' ho hst=>by
  rw [ho];exact ⟨rfl,M',lay',hst⟩
 generalize PostCr lo w M b out=Post at *
 obtain ⟨ta,tc,hbx,_⟩:=h.slice
 have hbz:=lB hbx
 have HBx:=Z hbx
 clear hs hn h hcv hcl hD2 hbx
 cases hta:Pl.tabAt D s.table with
 | some i =>
  have HE:=Z (HNo.out 2 w (by rw [<- HD2.out];unfold Pl.doCreate;rw [hta];simp) (Below.refl _ _))
  obtain ⟨l,_,_,hptr⟩:=tab_of HX.out (Pl.tabAt_lt hta)
  rw [hta,hptr] at HF
  clear hta hptr
  go_enter Tryz.func65,Tryz.ntmps65
  go_wp2_with fail
  refine (U HF).mono ?_
  rintro e w1 ⟨rfl,rfl⟩
  go_wp2_with fail
  exact HE.out
 | none =>
  rw [hta] at HF
  simp only [tabPtr] at HF
  cases hdup:Pl.dup (s.items.map (·.name)) with
  | true =>
   have HE:=Z (fun w'=>HNo.out 2 w' (by rw [<- HD2.out];unfold Pl.doCreate;rw [hta,hdup];simp))
   rw [hdup] at HTw
   clear hta hdup
   go_enter Tryz.func65,Tryz.ntmps65
   go_wp2_with fail
   refine (U HF).mono ?_
   rintro e w1 ⟨rfl,rfl⟩
   go_wp2_with fail
   refine (U HTw).mono ?_
   rintro e w2 ⟨rfl,hb2⟩
   have HB2:=Z hb2
   clear hb2
   go_wp2_with fail
   exact HE.out _ HB2.out
  | false =>
   rw [hdup] at HTw
   by_cases h6:D.length=6
   ·have HE:=Z (fun w'=>HNo.out 6 w' (by rw [<- HD2.out];unfold Pl.doCreate;rw [hta,hdup,if_neg (by simp),if_pos h6]))
    have g6:(((List.length D:Nat):Int) == 6)=true:=by simp;omega
    clear hta hdup
    go_enter Tryz.func65,Tryz.ntmps65
    go_wp2_with fail
    refine (U HF).mono ?_
    rintro e w1 ⟨rfl,rfl⟩
    go_wp2_with fail
    refine (U HTw).mono ?_
    rintro e w2 ⟨rfl,hb2⟩
    have HB2:=Z hb2
    have hbx2:=bB hb2 hbz HBx.out
    have c2:=bC hbx2 0
    simp at c2
    have hbz2:=lB hbx2
    clear hb2 hbx2
    go_wp2_with fail
    exact HE.out _ HB2.out
   ·have g6:(((List.length D:Nat):Int) == 6)=false:=by simp;omega
    have HOut:Hid (out=(D++[⟨s.table,colsOf s,[]⟩],Pl.no 0)):=by
     unfold Hid;rw [<- HD2.out];unfold Pl.doCreate;rw [hta,hdup,if_neg (by simp),if_neg h6];rfl
    have HOk:Hid (Pl.okDB (D++[⟨s.table,colsOf s,[]⟩])):=by
     unfold Hid
     have:=Pl.doSt_ok HS.out HX.out.ok
     unfold Pl.doSt at this
     rw [if_pos hk,HD2.out,HOut.out] at this
     exact this
    have hD6:=HX.out.ok.1
    obtain ⟨i0,hi,hz0,hz1,hz2⟩:=info_parts Tryz.infoTab
    clear hta hdup h6
    go_enter Tryz.func65,Tryz.ntmps65
    go_wp2_with fail
    refine (U HF).mono ?_
    rintro e w1 ⟨rfl,rfl⟩
    go_wp2_with fail
    refine (U HTw).mono ?_
    rintro e w2 ⟨rfl,hb2⟩
    have HB2:=Z hb2
    have hbx2:=bB hb2 hbz HBx.out
    have c2:=bC hbx2 0
    simp at c2
    have hbz2:=lB hbx2
    have hn2:=bB hb2 hnz HN.out
    have d0:=bC hn2 0
    have d1:=bC hn2 1
    simp at d0 d1
    have hnz2:=lB hn2
    have hz2':=hb2.size
    have H5:=Z (own_below hb2 (HX.out.own_box HBx.out).1)
    clear hb2 hbx2 hn2
    generalize hO:Obj.cells #[.string ⟨s.table.toArray⟩,.slice ca (colsOf s).length cc,.slice none 0 0] 94=O
    generalize hO2:Obj.cells #[.pointer (some ⟨w2.heap.size,0,none⟩)] 87=O2
    have HB3:Hid (Below w1.heap.size w1 ((w2.alloc O).alloc O2).drew):=(((HB2.out.alloc (by omega) _).alloc (by simp;omega) _).drew)
    have HNb:Hid (((w2.alloc O).alloc O2).drew.heap[w2.heap.size]?=some O):=bA (blk_new _ _) _
    have HNw:Hid (∀ j u,([.pointer (some ⟨w2.heap.size,0,none⟩)]:List Value)[j]?=some u->((w2.alloc O).alloc O2).drew.cell? ((⟨w2.heap.size+1,0,none⟩:Addr).add j)=some u):=by
     subst hO2
     exact news2 w2 O [.pointer (some ⟨w2.heap.size,0,none⟩)] 87
    have HOn:Hid (∀ u ∈ ([.pointer (some ⟨w2.heap.size,0,none⟩)]:List Value),u.oneCell'=true):=by intro u hu;simp at hu;subst hu;rfl
    have HMx:Hid (D.length+1<=maxLen):=by unfold Hid maxLen;omega
    have HYx:Hid ((D.length+1)*8<=140737488355328):=by unfold Hid;omega
    have HZx:Hid (0<=((w2.alloc O).alloc O2).drew.heap.size):=Nat.zero_le _
    have HPush:Hid (∀ w4 v',w4.ownsRow 0 87 1 v' (D.length+1) (lay.map layPtr++[.pointer (some ⟨w2.heap.size,0,none⟩)])->((w2.alloc O).alloc O2).drew.grownBy w4 (Value.ownBlock (.slice ta D.length tc))->(∀ k,v'.ownBlock=some k->Value.ownBlock (.slice ta D.length tc)=some k\/((w2.alloc O).alloc O2).drew.heap.size<=k)->w4.heap[b]?=some (.cells #[.slice ta D.length tc] 77)/\Post (.returned (.int .i64 0)) (w4.setCell ⟨b,0,none⟩ v')):=by
     intro w4 v' h1 h2 h3
     subst hO
     obtain ⟨a1,a2⟩:=db_push (lo:=lo) HX.out HB3.out HNb.out hz2' HCv.out HCl.out hlo HBx.out h1 h2 h3 HOk.out
     exact ⟨a1,HYes.out _ _ _ _ HOut.out a2⟩
    clear HB3 HNb HNo HYes
    subst hO
    subst hO2
    go_wp2_with fail
    go_region_law (refine step_append_at rfl (.tmp 29) (.tmp 40) 75 rfl 0 87 i0 _ 1 8 Tryz.underlying75 hi hz0 hz1 hz2 rfl (by decide) _ _ _ (by simp [Act.eval,Act.put]) ((H5.out.alloc _).alloc _) ⟨w2.heap.size+1,0,none⟩ 1 1 [.pointer (some ⟨w2.heap.size,0,none⟩)] (by simp [Act.eval,Act.put]) rfl HNw.out HOn.out HMx.out HYx.out HZx.out ?_;intro v' w' hown' hg' hfr';obtain ⟨g',cap',rfl⟩:=own_succ hown';obtain ⟨hb2,hs2⟩:=HPush.out _ _ hown' hg' hfr';have c4:=bC hb2 0;simp at c4;have f4:=bF hb2 0;have hz4:=lB hb2;have HS2:=Z hs2;clear hs2 hb2 hown' hg' hfr')
    all_goals go_wp2_with fail
    all_goals exact HS2.out
def FldAt (cols:List (List UInt8 × Int))(cs:List Value):Prop:=∀ (i:Nat)(c:List UInt8 × Int),cols[i]?=some c->cs[i*5]?=some (.string ⟨c.1.toArray⟩)/\cs[i*5+2]?=some (.int .i64 c.2)
structure RTabW (w:World)(M:Nat->Prop)(l:Lay)(t:Pl.Tab):Prop where
 own:M l.n
 blk:∃ cv,w.heap[l.n]?=some (.cells #[.string ⟨t.name.toArray⟩,cv,l.rv] 159)/\(∃ cs,w.ownsRow 0 157 5 cv t.cols.length cs/\FldAt t.cols cs)/\∀ k,cv.ownBlock=some k->M k
 rows:w.ownsRow 0 32 1 l.rv t.rows.length l.us
 rowsM:∀ k,l.rv.ownBlock=some k->M k
 empty:t.rows=[]->l.rv=.slice none 0 0
 each:∀ (i:Nat) (r:List Pl.V) (u:Value),t.rows[i]?=some r->l.us[i]?=some u->RowO w M r u
structure RDbW (w:World)(M:Nat->Prop)(b:Nat)(lay:List Lay)(D:Pl.DB):Prop where
 lt:∀ k,M k->k<w.heap.size
 own:M b
 box:∃ tv,w.heap[b]?=some (.cells #[tv] 105)/\w.ownsRow 0 154 1 tv D.length (lay.map layPtr)/\∀ k,tv.ownBlock=some k->M k
 len:lay.length=D.length
 tabs:∀ (i:Nat) (l:Lay) (t:Pl.Tab),lay[i]?=some l->D[i]?=some t->RTabW w M l t
 apart:∀ (i j:Nat) (l m:Lay),i≠j->lay[i]?=some l->lay[j]?=some m->l.n≠m.n/\∀ k,l.rv.ownBlock=some k->m.rv.ownBlock≠some k
 ok:Pl.okDB D
theorem RTabW.keep {w w':World}{M M':Nat->Prop}{l:Lay}{t:Pl.Tab}(h:RTabW w M l t)(hM:∀ k,M k->M' k)(hk:∀ k,M k->w'.heap[k]?=w.heap[k]?):RTabW w' M' l t:=by
 obtain ⟨h1,⟨cv,h2,⟨cs,h3,hfl⟩,h4⟩,h5,h6,h7,h8⟩:=h
 exact ⟨hM _ h1,⟨cv,(hk _ h1).trans h2,⟨cs,own_at h3 (fun k hk'=>hk k (h4 k hk')),hfl⟩,fun k hk'=>hM k (h4 k hk')⟩,own_at h5 (fun k hk'=>hk k (h6 k hk')),fun k hk'=>hM k (h6 k hk'),h7,fun i r u hr hu=>(h8 i r u hr hu).keep hM (fun k hk'=>hk k ((h8 i r u hr hu).2 k hk'))⟩
theorem RDbW.keep {w w':World}{M:Nat->Prop}{b:Nat}{lay:List Lay}{D:Pl.DB}(h:RDbW w M b lay D)(hs:w.heap.size<=w'.heap.size)(hk:∀ k,M k->w'.heap[k]?=w.heap[k]?):RDbW w' M b lay D:=by
 obtain ⟨h1,h2,⟨tv,h3,h4,h5⟩,h6,h7,h8,h9⟩:=h
 exact ⟨fun k hm=>Nat.lt_of_lt_of_le (h1 k hm) hs,h2,⟨tv,(hk _ h2).trans h3,own_at h4 (fun k hk'=>hk k (h5 k hk')),h5⟩,h6,fun i l t hl ht=>(h7 i l t hl ht).keep (fun k hm=>hm) hk,h8,h9⟩
theorem RDbW.below {w w':World}{M:Nat->Prop}{b:Nat}{lay:List Lay}{D:Pl.DB}(h:RDbW w M b lay D)(hb:Below w.heap.size w w'):RDbW w' M b lay D:=h.keep hb.size (fun k hk=>hb.block k (h.lt k hk))
theorem RDbW.put {w w':World}{M M':Nat->Prop}{b:Nat}{lay:List Lay}{D:Pl.DB}(h:RDbW w M b lay D){i:Nat}{l:Lay}{t:Pl.Tab}(hl:lay[i]?=some l)(ht:D[i]?=some t){rows:List (List Pl.V)}{rv:Value}{us:List Value}
 (hM:∀ k,M k->M' k) (hM':∀ k,M' k->k<w'.heap.size) (hkeep:∀ k,M k->k≠l.n->l.rv.ownBlock≠some k->w'.heap[k]?=w.heap[k]?)
 (htab:RTabW w' M' ⟨l.n,rv,us⟩ ⟨t.name,t.cols,rows⟩) (hrv:∀ k,rv.ownBlock=some k->l.rv.ownBlock=some k\/w.heap.size<=k) (hok:Pl.okDB (Pl.setRows D i rows)) :
 RDbW w' M' b (lay.set i ⟨l.n,rv,us⟩) (Pl.setRows D i rows):=by
 have hT:=h.tabs i l t hl ht
 obtain ⟨cvi,hbi,_,_⟩:=hT.blk
 have hi:i<lay.length:=by
  rcases Nat.lt_or_ge i lay.length with h|h
  ·exact h
  ·rw [List.getElem?_eq_none h] at hl;cases hl
 have hne:∀ {e:TypeId} {k:Nat} {C:Array Value} {m:Nat × Nat},w.heap[k]?=some (.cells C e m)->e≠159->e≠32->k≠l.n/\l.rv.ownBlock≠some k:=by
  intro e k C m hk h1 h2
  refine ⟨ty_ne hk hbi h1,fun e'=>?_⟩
  obtain ⟨C',m',h'⟩:=own_ty hT.rows e'
  exact ty_ne hk h' h2 rfl
 have hkO:∀ {base:Nat} {e:TypeId} {size n:Nat} {v:Value} {xs:List Value},w.ownsRow base e size v n xs->(∀ k,v.ownBlock=some k->M k)->e≠159->e≠32->∀ k,v.ownBlock=some k->w'.heap[k]?=w.heap[k]?:=by
  intro base e size n v xs ho hm h1 h2 k hk
  obtain ⟨C,m,hc⟩:=own_ty ho hk
  obtain ⟨a1,a2⟩:=hne hc h1 h2
  exact hkeep k (hm k hk) a1 a2
 obtain ⟨tv,hb1,hb2,hb3⟩:=h.box
 refine ⟨hM',hM _ h.own,⟨tv,?_,?_,fun k hk=>hM k (hb3 k hk)⟩,by rw [List.length_set,Pl.setRows_len];exact h.len,?_,?_,hok⟩
 ·obtain ⟨a1,a2⟩:=hne hb1 (by decide) (by decide)
  rw [hkeep b h.own a1 a2];exact hb1
 ·rw [Pl.setRows_len]
  have:(lay.set i ⟨l.n,rv,us⟩).map layPtr=lay.map layPtr:=by
   rw [List.map_set]
   apply List.ext_getElem?
   intro j
   rw [List.getElem?_set]
   split
   ·rename_i e;subst e
    split
    ·rw [List.getElem?_map,hl];rfl
    ·rename_i hlt;simp at hlt;omega
   ·rfl
  rw [this]
  exact own_at hb2 (hkO hb2 hb3 (by decide) (by decide))
 ·intro j m s hm hs
  rw [List.getElem?_set] at hm
  unfold Pl.setRows at hs
  rw [List.getElem?_modify] at hs
  by_cases hij:i=j
  ·subst hij
   rw [if_pos rfl,if_pos hi] at hm
   simp at hm;subst hm
   rw [ht] at hs
   simp at hs;subst hs
   exact htab
  ·rw [if_neg hij] at hm
   have hs':D[j]?=some s:=by
    cases hd:D[j]? with
    | none=>rw [hd] at hs;simp at hs
    | some x=>rw [hd] at hs;simp [hij] at hs;rw [hs]
   have hJ:=h.tabs j m s hm hs'
   obtain ⟨ap1,ap2⟩:=h.apart i j l m hij hl hm
   obtain ⟨g1,⟨cv,g2,⟨cs,g3,hfl⟩,g4⟩,g5,g6,g7,g8⟩:=hJ
   have k1:w'.heap[m.n]?=w.heap[m.n]?:=hkeep m.n g1 (Ne.symm ap1) (fun e=>by
    obtain ⟨C',m',h'⟩:=own_ty hT.rows e
    exact ty_ne g2 h' (by decide) rfl)
   refine ⟨hM _ g1,⟨cv,k1.trans g2,⟨cs,own_at g3 (hkO g3 g4 (by decide) (by decide)),hfl⟩,fun k hk=>hM k (g4 k hk)⟩,own_at g5 (fun k hk=>?_),fun k hk=>hM k (g6 k hk),g7,fun x r u hr hu=>?_⟩
   ·obtain ⟨C,mm,hc⟩:=own_ty g5 hk
    exact hkeep k (g6 k hk) (ty_ne hc hbi (by decide)) (fun e=>ap2 k e hk)
   ·have:=g8 x r u hr hu
    exact this.keep hM (hkO this.1 this.2 (by decide) (by decide))
 ·intro x y lx ly hxy hx hy
  rw [List.getElem?_set] at hx hy
  by_cases hix:i=x
  ·subst hix
   rw [if_pos rfl,if_pos hi] at hx
   rw [if_neg hxy] at hy
   simp at hx;subst hx
   obtain ⟨a1,a2⟩:=h.apart i y l ly hxy hl hy
   refine ⟨a1,fun k hk hk'=>?_⟩
   rcases hrv k hk with h0|h0
   ·exact a2 k h0 hk'
   ·have hs:∃ s,D[y]?=some s:=by
     have:y<D.length:=by
      rw [<- h.len]
      rcases Nat.lt_or_ge y lay.length with h|h
      ·exact h
      ·rw [List.getElem?_eq_none h] at hy;cases hy
     exact ⟨_,List.getElem?_eq_getElem this⟩
    obtain ⟨s,hs⟩:=hs
    have:=h.lt k ((h.tabs y ly s hy hs).rowsM k hk')
    omega
  ·rw [if_neg hix] at hx
   by_cases hiy:i=y
   ·subst hiy
    rw [if_pos rfl,if_pos hi] at hy
    simp at hy;subst hy
    obtain ⟨a1,a2⟩:=h.apart x i lx l (Ne.symm hix) hx hl
    refine ⟨a1,fun k hk hk'=>?_⟩
    rcases hrv k hk' with h0|h0
    ·exact a2 k hk h0
    ·have hs:∃ s,D[x]?=some s:=by
      have:x<D.length:=by
       rw [<- h.len]
       rcases Nat.lt_or_ge x lay.length with h|h
       ·exact h
       ·rw [List.getElem?_eq_none h] at hx;cases hx
      exact ⟨_,List.getElem?_eq_getElem this⟩
     obtain ⟨s,hs⟩:=hs
     have:=h.lt k ((h.tabs x lx s hx hs).rowsM k hk)
     omega
   ·rw [if_neg hiy] at hy
    exact h.apart x y lx ly hxy hx hy
structure RDbStep (lo:Nat)(w:World)(M:Nat->Prop)(b:Nat)(D:Pl.DB)(w':World)(M':Nat->Prop)(lay:List Lay):Prop where
 db:RDbW w' M' b lay D
 sub:∀ k,M k->M' k
 new:∀ k,M' k->M k\/lo<=k
 keep:KP (fun k=>k<w.heap.size/\¬ M k) w w'
theorem RDbStep.below {lo:Nat}{w w':World}{M:Nat->Prop}{b:Nat}{D:Pl.DB}{lay:List Lay}(h:RDbW w M b lay D)(hb:Below w.heap.size w w'):RDbStep lo w M b D w' M lay :=
 ⟨h.below hb,fun k hk=>hk,fun k hk=>.inl hk,⟨hb.os,hb.tape,hb.output,hb.size,fun k hk=>hb.block k hk.1⟩⟩
theorem rtab_push {w w3 w4:World}{M:Nat->Prop}{b:Nat}{lay:List Lay}{D:Pl.DB}(h:RDbW w M b lay D){i:Nat}{l:Lay}{t:Pl.Tab}(hl:lay[i]?=some l)(ht:D[i]?=some t){row:List Pl.V}{u v':Value}(hb:Below w.heap.size w w3)(hu:w3.ownsRow w.heap.size 34 3 u row.length (rowC row))
 (hown:w4.ownsRow 0 32 1 v' (t.rows.length+1) (l.us++[u])) (hg:w3.grownBy w4 l.rv.ownBlock) (ho:v'.ownBlock=l.rv.ownBlock\/v'.ownBlock=some w3.heap.size) (hok:Pl.okDB (Pl.setRows D i (t.rows++[row]))) :
 (∃ cv,w4.heap[l.n]?=some (.cells #[.string ⟨t.name.toArray⟩,cv,l.rv] 159)) /\
 RDbStep w.heap.size w M b (Pl.setRows D i (t.rows++[row])) (w4.setCell ⟨l.n,2,none⟩ v') (grown M w w4) (lay.set i ⟨l.n,v',l.us++[u]⟩):=by
 have hT:=h.tabs i l t hl ht
 obtain ⟨cv,g2,⟨cs,g3,hfl⟩,g4⟩:=hT.blk
 have hz3:=hb.size
 have hz4:=hg.size
 have hln:=h.lt _ hT.own
 have hk4:∀ k,k<w.heap.size->l.rv.ownBlock≠some k->w4.heap[k]?=w.heap[k]?:=fun k hk hne=>by
  rw [hg.block k (by omega) (fun e=>hne e.symm),hb.block k hk]
 have hnl:l.rv.ownBlock≠some l.n:=fun e=>by
  obtain ⟨C,m,hc⟩:=own_ty hT.rows e
  exact ty_ne hc g2 (by decide) rfl
 have hb4:w4.heap[l.n]?=some (.cells #[.string ⟨t.name.toArray⟩,cv,l.rv] 159):=(hk4 _ hln hnl).trans g2
 refine ⟨⟨cv,hb4⟩,?_⟩
 have hkeep:∀ k,k<w.heap.size->k≠l.n->l.rv.ownBlock≠some k->(w4.setCell ⟨l.n,2,none⟩ v').heap[k]?=w.heap[k]?:=fun k hk hne hne2=>by
  rw [Below.heap_setCell _ _ _ _ hne];exact hk4 k hk hne2
 have hkO:∀ {base:Nat} {e:TypeId} {size n:Nat} {v:Value} {xs:List Value},w.ownsRow base e size v n xs->(∀ k,v.ownBlock=some k->M k)->e≠159->e≠32->∀ k,v.ownBlock=some k->(w4.setCell ⟨l.n,2,none⟩ v').heap[k]?=w.heap[k]?:=by
  intro base e size n v xs hov hm h1 h2 k hk
  obtain ⟨C,m,hc⟩:=own_ty hov hk
  refine hkeep k (h.lt k (hm k hk)) (ty_ne hc g2 h1) (fun e'=>?_)
  obtain ⟨C',m',h'⟩:=own_ty hT.rows e'
  exact ty_ne hc h' h2 rfl
 have hv4:∀ k,v'.ownBlock=some k->k≠l.n:=fun k hk e=>by
  subst e
  rcases ho with h0|h0
  ·rw [h0] at hk;exact hnl hk
  ·rw [h0] at hk;injection hk with hk;omega
 have hM:∀ k,M k->grown M w w4 k:=fun k hk=>.inl hk
 have hnewu:∀ k,u.ownBlock=some k->w.heap.size<=k/\k<w3.heap.size:=fun k hk=>hu.lt k hk
 refine ⟨h.put hl ht hM (fun k hk=>?_) (fun k hk hne hne2=>hkeep k (h.lt k hk) hne hne2) ?_ (fun k hk=>?_) hok,hM,fun k hk=>hk.imp id (fun h=>h.1),?_⟩
 ·rw [size_set]
  rcases hk with hk|hk
  ·have:=h.lt k hk;omega
  ·exact hk.2
 ·refine ⟨hM _ hT.own,⟨cv,?_,?_,fun k hk=>hM k (g4 k hk)⟩,?_,fun k hk=>?_,fun hn=>?_,fun j r x hr hx=>?_⟩
  ·have:=bS hb4 2 v'
   simpa using this
  ·exact ⟨cs,own_at g3 (hkO g3 g4 (by decide) (by decide)),hfl⟩
  ·simp only [List.length_append,List.length_singleton]
   exact own_at hown (fun k hk=>Below.heap_setCell _ _ _ _ (hv4 k hk))
  ·rcases ho with h0|h0
   ·have hk':v'.ownBlock=some k:=hk
    rw [h0] at hk';exact hM k (hT.rowsM k hk')
   ·have hk':v'.ownBlock=some k:=hk
    rw [h0] at hk';cases hk'
    refine .inr ⟨hz3,?_⟩
    exact (hown.lt _ hk).2
  ·simp at hn
  ·have hlen:l.us.length=t.rows.length:=by have:=hT.rows.1;omega
   by_cases hj:j<t.rows.length
   ·rw [List.getElem?_append_left hj] at hr
    rw [List.getElem?_append_left (by omega)] at hx
    have:=hT.each j r x hr hx
    exact this.keep hM (hkO this.1 this.2 (by decide) (by decide))
   ·have hj':j=t.rows.length:=by have:=getElem?_lt hr;simp at this;omega
    subst hj'
    simp at hr
    rw [<- hlen] at hx
    simp at hx
    subst hr;subst hx
    refine ⟨own_at (own_base hu (Nat.zero_le _)) (fun k hk=>?_),fun k hk=>.inr ⟨(hnewu k hk).1,by have:=(hnewu k hk).2;omega⟩⟩
    have hk1:=hnewu k hk
    rw [Below.heap_setCell _ _ _ _ (show k≠l.n by omega)]
    exact hg.block k hk1.2 (fun e=>by have:=h.lt k (hT.rowsM k e.symm);omega)
 ·rcases ho with h0|h0
  ·rw [h0] at hk;exact .inl hk
  ·rw [h0] at hk;cases hk;exact .inr hz3
 ·refine ⟨hg.os.trans hb.os,hg.tape.trans hb.tape,hg.output.trans hb.output,by rw [size_set];omega,fun k hk=>hkeep k hk.1 (fun e=>hk.2 (e ▸ hT.own)) (fun e=>hk.2 (hT.rowsM k e))⟩
theorem RDbStep.low {lo lo':Nat}{w w':World}{M M':Nat->Prop}{b:Nat}{D:Pl.DB}{lay:List Lay}(h:RDbStep lo w M b D w' M' lay)(hl:lo'<=lo):RDbStep lo' w M b D w' M' lay:=⟨h.db,h.sub,fun k hk=>(h.new k hk).imp id (fun h=>Nat.le_trans hl h),h.keep⟩
theorem RDbW.own_box {w:World}{M:Nat->Prop}{b:Nat}{lay:List Lay}{D:Pl.DB}(h:RDbW w M b lay D){tv:Value}(hb:w.heap[b]?=some (.cells #[tv] 105)):w.ownsRow 0 154 1 tv D.length (lay.map layPtr)/\∀ k,tv.ownBlock=some k->M k:=by
 obtain ⟨tv',h1,h2,h3⟩:=h.box
 rw [hb] at h1
 injection h1 with h1
 injection h1 with h1 _ _
 have:tv=tv':=by simpa using h1
 subst this
 exact ⟨h2,h3⟩
theorem rdb_push {lo:Nat}{w w3 w4:World}{M:Nat->Prop}{b:Nat}{lay:List Lay}{D:Pl.DB}(h:RDbW w M b lay D){name:List UInt8}{cols:List (List UInt8 × Int)}{nb base:Nat}{tv cv v':Value}(hb:Below w.heap.size w w3)(hnb:w3.heap[nb]?=some (.cells #[.string ⟨name.toArray⟩,cv,.slice none 0 0] 159))(hnew:w.heap.size<=nb)
 {cs:List Value} (hcv:w.ownsRow base 157 5 cv cols.length cs) (hfl:FldAt cols cs) (hcl:∀ k,cv.ownBlock=some k->lo<=k) (hlo:lo<=w.heap.size) (hbx:w.heap[b]?=some (.cells #[tv] 105))
 (hown:w4.ownsRow 0 154 1 v' (D.length+1) (lay.map layPtr++[.pointer (some ⟨nb,0,none⟩)])) (hg:w3.grownBy w4 tv.ownBlock) (ho:∀ k,v'.ownBlock=some k->tv.ownBlock=some k\/w3.heap.size<=k) (hok:Pl.okDB (D++[⟨name,cols,[]⟩])) :
 w4.heap[b]?=some (.cells #[tv] 105)/\RDbStep lo w M b (D++[⟨name,cols,[]⟩]) (w4.setCell ⟨b,0,none⟩ v') (fun k=>grown M w w4 k\/cv.ownBlock=some k) (lay++[⟨nb,.slice none 0 0,[]⟩]):=by
 obtain ⟨ho1,ho2⟩:=h.own_box hbx
 have hz3:=hb.size
 have hz4:=hg.size
 have hbz:=lB hbx
 have hnbz:=lB hnb
 have hk4:∀ k,k<w.heap.size->tv.ownBlock≠some k->w4.heap[k]?=w.heap[k]?:=fun k hk hne=>by
  rw [hg.block k (by omega) (fun e=>hne e.symm),hb.block k hk]
 have htb:tv.ownBlock≠some b:=fun e=>by
  obtain ⟨C,m,hc⟩:=own_ty ho1 e
  exact ty_ne hc hbx (by decide) rfl
 have hb4:w4.heap[b]?=some (.cells #[tv] 105):=(hk4 b hbz htb).trans hbx
 refine ⟨hb4,?_⟩
 have hkeep:∀ k,k<w.heap.size->k≠b->tv.ownBlock≠some k->(w4.setCell ⟨b,0,none⟩ v').heap[k]?=w.heap[k]?:=fun k hk hne hne2=>by
  rw [Below.heap_setCell _ _ _ _ hne];exact hk4 k hk hne2
 have hne:∀ {e:TypeId} {k:Nat} {C:Array Value} {m:Nat × Nat},w.heap[k]?=some (.cells C e m)->e≠105->e≠154->k≠b/\tv.ownBlock≠some k:=by
  intro e k C m hk h1 h2
  refine ⟨ty_ne hk hbx h1,fun e'=>?_⟩
  obtain ⟨C',m',h'⟩:=own_ty ho1 e'
  exact ty_ne hk h' h2 rfl
 have hkO:∀ {base:Nat} {e:TypeId} {size n:Nat} {v:Value} {xs:List Value},w.ownsRow base e size v n xs->e≠105->e≠154->∀ k,v.ownBlock=some k->(w4.setCell ⟨b,0,none⟩ v').heap[k]?=w.heap[k]?:=by
  intro base e size n v xs hov h1 h2 k hk
  obtain ⟨C,m,hc⟩:=own_ty hov hk
  obtain ⟨a1,a2⟩:=hne hc h1 h2
  exact hkeep k (hov.lt k hk).2 a1 a2
 have hM:∀ k,M k->(fun k=>grown M w w4 k\/cv.ownBlock=some k) k:=fun k hk=>.inl (.inl hk)
 have hnb4:(w4.setCell ⟨b,0,none⟩ v').heap[nb]?=some (.cells #[.string ⟨name.toArray⟩,cv,.slice none 0 0] 159):=by
  rw [Below.heap_setCell _ _ _ _ (show nb≠b by omega),hg.block nb hnbz (fun e=>by have:=(ho1.lt nb e.symm).2;omega)]
  exact hnb
 have hv4:∀ k,v'.ownBlock=some k->k≠b:=fun k hk e=>by
  subst e
  rcases ho _ hk with h0|h0
  ·exact htb h0
  ·omega
 refine ⟨⟨fun k hk=>?_,hM _ h.own,⟨v',?_,?_,fun k hk=>?_⟩,?_,?_,?_,hok⟩,hM,fun k hk=>?_,?_⟩
 ·rw [size_set]
  rcases hk with (hk|hk)|hk
  ·have:=h.lt k hk;omega
  ·exact hk.2
  ·have:=(hcv.lt k hk).2;omega
 ·have:=bS hb4 0 v'
  simpa using this
 ·simp only [List.length_append,List.length_singleton,List.map_append]
  exact own_at hown (fun k hk=>Below.heap_setCell _ _ _ _ (hv4 k hk))
 ·rcases ho k hk with h0|h0
  ·exact hM k (ho2 k h0)
  ·exact .inl (.inr ⟨by omega,(hown.lt k hk).2⟩)
 ·simp [h.len]
 ·intro i l t hl ht
  by_cases hi:i<lay.length
  ·rw [List.getElem?_append_left hi] at hl
   rw [List.getElem?_append_left (by rw [<- h.len];exact hi)] at ht
   obtain ⟨g1,⟨cw,g2,⟨cs',g3,hfl'⟩,g4⟩,g5,g6,g7,g8⟩:=h.tabs i l t hl ht
   obtain ⟨a1,a2⟩:=hne g2 (by decide) (by decide)
   exact ⟨hM _ g1,⟨cw,(hkeep _ (h.lt _ g1) a1 a2).trans g2,⟨cs',own_at g3 (hkO g3 (by decide) (by decide)),hfl'⟩,fun k hk=>hM k (g4 k hk)⟩,own_at g5 (hkO g5 (by decide) (by decide)),fun k hk=>hM k (g6 k hk),g7,fun x r u hr hu=>(g8 x r u hr hu).keep hM (hkO (g8 x r u hr hu).1 (by decide) (by decide))⟩
  ·have hi1:=getElem?_lt hl
   simp at hi1
   have hi2:i=lay.length:=by omega
   subst hi2
   simp at hl
   rw [h.len] at ht
   simp at ht
   subst hl;subst ht
   refine ⟨.inl (.inr ⟨hnew,by show nb<_;omega⟩),⟨cv,hnb4,⟨cs,own_at (own_base hcv (Nat.zero_le _)) (hkO hcv (by decide) (by decide)),hfl⟩,fun k hk=>.inr hk⟩,World.ownsRow_nil _ _ _ _,fun k hk=>(by cases hk),fun _=>rfl,fun x r u hr hu=>(by simp at hr)⟩
 ·intro i j l m hij hl hm
  have hlow:∀ (x:Nat) (lx:Lay),lay[x]?=some lx->lx.n<w.heap.size/\∀ k,lx.rv.ownBlock=some k->k<w.heap.size:=fun x lx hx=>by
   have hx':x<D.length:=by rw [<- h.len];exact getElem?_lt hx
   have:=h.tabs x lx _ hx (List.getElem?_eq_getElem hx')
   exact ⟨h.lt _ this.own,fun k hk=>h.lt k (this.rowsM k hk)⟩
  by_cases hi:i<lay.length
  ·rw [List.getElem?_append_left hi] at hl
   by_cases hj:j<lay.length
   ·rw [List.getElem?_append_left hj] at hm
    exact h.apart i j l m hij hl hm
   ·have hj1:=getElem?_lt hm
    simp at hj1
    have hj2:j=lay.length:=by omega
    subst hj2
    simp at hm;subst hm
    exact ⟨by have:=(hlow i l hl).1;show l.n≠nb;omega,fun k _=>by simp [Value.ownBlock]⟩
  ·have hi1:=getElem?_lt hl
   simp at hi1
   have hi2:i=lay.length:=by omega
   subst hi2
   simp at hl;subst hl
   have hj:j<lay.length:=by have:=getElem?_lt hm;simp at this;omega
   rw [List.getElem?_append_left hj] at hm
   exact ⟨by have:=(hlow j m hm).1;show nb≠m.n;omega,fun k hk=>by simp [Value.ownBlock] at hk⟩
 ·rcases hk with (hk|hk)|hk
  ·exact .inl hk
  ·exact .inr (by omega)
  ·exact .inr (hcl k hk)
 ·exact ⟨hg.os.trans hb.os,hg.tape.trans hb.tape,hg.output.trans hb.output,by rw [size_set];omega,fun k hk=>hkeep k hk.1 (fun e=>hk.2 (e ▸ h.own)) (fun e=>hk.2 (ho2 k e))⟩
end Go.Proofs.YtojdpjpldokjmaaGreatDoor
