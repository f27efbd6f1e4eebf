/- The code's Save: the whole. -/
import Derived.Test.YtojdpjpldokjmaaGreatDoorF21
import Derived.Test.YtojdpjpldokjmaaGreatDoorF18
import Derived.Test.YtojdpjpldokjmaaGreatDoorF07
set_option maxHeartbeats 60000000
set_option maxRecDepth 100000
namespace Go.Proofs.YtojdpjpldokjmaaGreatDoor.Pl
def headLine (t:Tab):List UInt8:=[67,82,69,65,84,69,32,84,65,66,76,69,32]++t.name++[32]++brackets (t.cols.map colText)++[10]
theorem tabText_eq (t:Tab):tabText t=headLine t++(t.rows.map (rowLine t.name)).flatten:=by simp [tabText,headLine]
theorem brackets_len {l:List (List UInt8)}(h:∀ x ∈ l,x.length<=100)(hn:l.length<=5):(brackets l).length<=600:=by
 have:=sepJoin_len l h
 simp [brackets];omega
theorem cols_len {t:Tab}(h:okTab t):(brackets (t.cols.map colText)).length<=600:=brackets_len (fun x hx=>by obtain ⟨c,hc,rfl⟩:=List.mem_map.1 hx;exact colText_len (h.cols c hc).2) (by rw [List.length_map];exact h.ncols)
theorem head_len {t:Tab}(h:okTab t):(headLine t).length<=1000:=by
 have:=cols_len h
 have:=h.name
 simp [headLine];omega
theorem row_okV {t:Tab}(h:okTab t){r:List V}(hr:r ∈ t.rows):r.length<=5/\∀ x ∈ r,okV x:=by
 obtain ⟨h1,h2,_⟩:=h.rows r hr
 have:=h.ncols
 refine ⟨?_,h2⟩
 rw [h1];simpa [scope] using this
theorem vals_len {t:Tab}(h:okTab t){r:List V}(hr:r ∈ t.rows):(brackets (r.map valText)).length<=600:=brackets_len (fun x hx=>by obtain ⟨c,hc,rfl⟩:=List.mem_map.1 hx;exact valText_len ((row_okV h hr).2 c hc)) (by rw [List.length_map];exact (row_okV h hr).1)
theorem rowLine_len {t:Tab}(h:okTab t){r:List V}(hr:r ∈ t.rows):(rowLine t.name r).length<=1000:=by
 have:=vals_len h hr
 have:=h.name
 simp [rowLine];omega
theorem flat_len {m:Nat}:∀ l:List (List UInt8),(∀ x ∈ l,x.length<=m)->l.flatten.length<=l.length*m
 | [],_=>by simp
 | x :: r,h=>by
  have h1:=h x (by simp)
  have h2:=flat_len r (fun y hy=>h y (by simp [hy]))
  simp only [List.flatten_cons,List.length_append,List.length_cons,Nat.succ_mul];omega
theorem rows_len {t:Tab}(h:okTab t)(j:Nat):(((t.rows.take j).map (rowLine t.name)).flatten).length<=25000:=by
 have h1:=flat_len (m:=1000) ((t.rows.take j).map (rowLine t.name)) (fun x hx=>by obtain ⟨c,hc,rfl⟩:=List.mem_map.1 hx;exact rowLine_len h (List.mem_of_mem_take hc))
 have h2:=h.nrows
 rw [List.length_map,List.length_take] at h1
 have:min j t.rows.length*1000<=25*1000:=Nat.mul_le_mul_right _ (by omega)
 omega
theorem tabText_len {t:Tab}(h:okTab t):(tabText t).length<=26000:=by
 have h1:=rows_len h t.rows.length
 have h2:=head_len h
 rw [List.take_length] at h1
 rw [tabText_eq,List.length_append];omega
theorem tabs_len {D:DB}(h:okDB D)(i:Nat):(((D.take i).map tabText).flatten).length<=200000:=by
 have h1:=flat_len (m:=26000) ((D.take i).map tabText) (fun x hx=>by obtain ⟨c,hc,rfl⟩:=List.mem_map.1 hx;exact tabText_len (h.2 c (List.mem_of_mem_take hc)))
 have h2:=h.1
 rw [List.length_map,List.length_take] at h1
 have:min i D.length*26000<=6*26000:=Nat.mul_le_mul_right _ (by omega)
 omega
end Go.Proofs.YtojdpjpldokjmaaGreatDoor.Pl
namespace Go.Proofs.YtojdpjpldokjmaaGreatDoor
open Go.RowKit Go.Deep
set_option linter.unusedSimpArgs false
set_option linter.unusedVariables false
theorem ent_brCols (vs:Array Value)(w:World):(callFunc 38 vs).run Tryz.prog w=.ok (.enter 38 vs) w:=by
 have h1:(Tryz.f38.name == "runtime.NumGoroutine")=false:=by kernel_rfl
 have h2 : Tryz.f38.body.isNone=false:=by kernel_rfl
 have h1':¬ Tryz.f38.name = "runtime.NumGoroutine":=by simpa using h1
 have h2':¬ Tryz.f38.body=none:=by intro e;rw [e] at h2;cases h2
 simp [callFunc,go_sem,Tryz.func38,h1',h2']
theorem ent_brVals (vs:Array Value)(w:World):(callFunc 40 vs).run Tryz.prog w=.ok (.enter 40 vs) w:=by
 have h1:(Tryz.f40.name == "runtime.NumGoroutine")=false:=by kernel_rfl
 have h2 : Tryz.f40.body.isNone=false:=by kernel_rfl
 have h1':¬ Tryz.f40.name = "runtime.NumGoroutine":=by simpa using h1
 have h2':¬ Tryz.f40.body=none:=by intro e;rw [e] at h2;cases h2
 simp [callFunc,go_sem,Tryz.func40,h1',h2']
theorem ent_write (vs:Array Value)(w:World):(callFunc 37 vs).run Tryz.prog w=.ok (.enter 37 vs) w:=by
 have h1:(Tryz.f37.name == "runtime.NumGoroutine")=false:=by kernel_rfl
 have h2 : Tryz.f37.body.isNone=false:=by kernel_rfl
 have h1':¬ Tryz.f37.name = "runtime.NumGoroutine":=by simpa using h1
 have h2':¬ Tryz.f37.body=none:=by intro e;rw [e] at h2;cases h2
 simp [callFunc,go_sem,Tryz.func37,h1',h2']
theorem s_head (n c:List UInt8):(((({ data:=#[67,82,69,65,84,69,32,84,65,66,76,69,32] }:ByteArray)++{ data:=n.toArray })++{ data:=#[32] })++{ data:=c.toArray })++{ data:=#[10] }=⟨([67,82,69,65,84,69,32,84,65,66,76,69,32]++n++[32]++c++[10]).toArray⟩:=by
 rw [show (#[67,82,69,65,84,69,32,84,65,66,76,69,32]:Array UInt8)=[67,82,69,65,84,69,32,84,65,66,76,69,32].toArray from rfl,show (#[32]:Array UInt8)=[32].toArray from rfl,show (#[10]:Array UInt8)=[10].toArray from rfl]
 rw [cat2',cat2',cat2',cat2']
theorem s_line (n c:List UInt8):(((({ data:=#[73,78,83,69,82,84,32,73,78,84,79,32] }:ByteArray)++{ data:=n.toArray })++{ data:=#[32,86,65,76,85,69,83,32] })++{ data:=c.toArray })++{ data:=#[10] }=⟨([73,78,83,69,82,84,32,73,78,84,79,32]++n++[32,86,65,76,85,69,83,32]++c++[10]).toArray⟩:=by
 rw [show (#[73,78,83,69,82,84,32,73,78,84,79,32]:Array UInt8)=[73,78,83,69,82,84,32,73,78,84,79,32].toArray from rfl,show (#[32,86,65,76,85,69,83,32]:Array UInt8)=[32,86,65,76,85,69,83,32].toArray from rfl,show (#[10]:Array UInt8)=[10].toArray from rfl]
 rw [cat2',cat2',cat2',cat2']
def BdI (w wr:World)(l:List UInt8):Prop:=Below w.heap.size w wr/\Lib.IsBuilder 86 5 w.heap.size w.heap.size (Lib.byteCells l) wr
theorem write_ret (X:SaveLib){w wr:World}{l s:List UInt8}(h:BdI w wr l)(hl:l.length+s.length<=100000000):Calls Tryz.prog 37 #[.pointer (some ⟨w.heap.size,0,none⟩),.string ⟨s.toArray⟩] wr fun e w'=>∃ v,e=.returned v/\BdI w w' (l++s) :=
 (X.write _ _ l s wr h.2 hl h.1.size).mono fun e w' ⟨v,he,hb,hbel⟩=>⟨v,he,h.1.trans hbel,hb⟩
theorem builder_below {T e:TypeId}{B b:Nat}{p:Value}{bs:List Value}{wr w':World}(h:Lib.BuilderAt T e B b p bs wr)(hb:Below wr.heap.size wr w'):Lib.BuilderAt T e B b p bs w':=by
 obtain ⟨h1,v,h2,h3,h4⟩:=h
 exact ⟨h1,v,(hb.block b (lB h2)).trans h2,own_below hb h3,h4⟩
theorem BdI.below {w wr w':World}{l:List UInt8}(h:BdI w wr l)(hb:Below wr.heap.size wr w'):BdI w w' l:=⟨h.1.trans (hb.mono h.1.size),h.2.imp (fun h=>builder_below h hb) (fun h=>builder_below h hb)⟩
theorem BdI.drew {w wr:World}{l:List UInt8}(h:BdI w wr l):BdI w wr.drew l:=h.below (Below.refl _ _).drew
theorem TabW.at_ {w:World}{M:Nat->Prop}{l:Lay}{t:Pl.Tab}(h:TabW w M l t):∃ ra rc,l.rv=.slice ra t.rows.length rc/\∀ (j:Nat)(r:List Pl.V),t.rows[j]?=some r->∃ g u,ra=some ⟨g,0,none⟩/\g<w.heap.size/\w.cell? ⟨g,j,none⟩=some u/\RowsW w w.heap.size 3 vC r u:=by
 obtain ⟨⟨h1,h2⟩,hz,_⟩:=tabMat h
 have hlen:(t.rows.zip l.us).length=t.rows.length:=by rw [<- List.length_map (f:=(·.1)),hz]
 obtain ⟨ra,rc,hrv⟩:=h1.slice
 refine ⟨ra,rc,by rw [hrv,hlen],fun j r hr=>?_⟩
 have hj:j<(t.rows.zip l.us).length:=by rw [hlen];exact (List.getElem?_eq_some_iff.1 hr).1
 have hq:(t.rows.zip l.us)[j]?=some (t.rows.zip l.us)[j]:=List.getElem?_eq_getElem hj
 have he:(t.rows.zip l.us)[j].1=r:=by
  have h3:((t.rows.zip l.us).map (·.1))[j]?=some r:=by rw [hz];exact hr
  rw [List.getElem?_map,hq] at h3
  simpa using h3
 obtain ⟨g,cap,e,hg,hc⟩:=h1.at1 (f:=fun p=>p.2) hq
 rw [hrv] at e
 cases e
 refine ⟨g,_,rfl,hg,hc,?_⟩
 have:=h2 _ (List.getElem_mem hj)
 rw [he] at this
 exact this
def PostStr (w:World)(x:List UInt8)(v:Value)(w':World):Prop:=v=.string ⟨x.toArray⟩/\Below w.heap.size w w'
theorem str_ret {f:Nat}{args:Array Value}{w:World}{x:List UInt8}(h:Calls Tryz.prog f args w fun e w'=>e=.returned (.string ⟨x.toArray⟩)/\Below w.heap.size w w'):Calls Tryz.prog f args w fun e w'=>∃ v,e=.returned v/\PostStr w x v w':=h.mono fun e w' ⟨h1,h2⟩=>⟨_,h1,rfl,h2⟩
theorem saveM (X:SaveLib){w:World}{M:Nat->Prop}{b:Nat}{lay:List Lay}{D:Pl.DB}(h:DbW w M b lay D)(hg:SaveG w):Calls Tryz.prog 27 #[.pointer (some ⟨b,0,none⟩)] w fun e w'=>e=.returned (.string ⟨(Pl.save D).toArray⟩)/\Below w.heap.size w w':=by
 obtain ⟨ta,tc,hbx,hat⟩:=h.slice
 have hb:=lB hbx
 have c0:=bC hbx 0
 simp at c0
 have hD:D.length<=6:=h.ok.1
 have HA:=Z hat
 have HW:=Z h
 have HG:=Z hg
 have HX:=Z X
 have HS:Hid (BdI w (w.alloc (.cells #[.pointer none,.slice none 0 0] 86)) []):=⟨(Below.refl _ _).alloc (Nat.le_refl _) _,Lib.fresh_isBuilder _ _ _⟩
 have hpz:w.heap.size=w.heap.size:=rfl
 clear h hbx hat hg X hpz
 go_enter Tryz.func27,Tryz.ntmps27
 go_wp2_with fail
 go_loopw [13] (fun s13 wr=>∃ i:Nat,i<=D.length/\s13=.int .i64 i/\Hid (BdI w wr (((D.take i).map Pl.tabText).flatten))) (fun a _=>D.length - (intOf a).toNat)
 case atStart=>exact ⟨0,Nat.zero_le _,rfl,HS.out⟩
 case round =>
  obtain ⟨i,hi,rfl,HI⟩:=hrel
  have hbI:=HI.out.1
  by_cases hlt:i<D.length
  ·have hdi:D[i]?=some D[i]:=List.getElem?_eq_getElem hlt
   have hli:lay[i]?=some (lay[i]'(by rw [HW.out.len];exact hlt)):=List.getElem?_eq_getElem _
   generalize lay[i]'(by rw [HW.out.len];exact hlt)=l at *
   have HTk:Hid (((D.take (i+1)).map Pl.tabText).flatten=((D.take i).map Pl.tabText).flatten++Pl.tabText D[i]):=by
    unfold Hid
    rw [List.take_add_one,hdi]
    simp only [Option.toList_some,List.map_append,List.map_cons,List.map_nil,List.flatten_append,List.flatten_cons,List.flatten_nil,List.append_nil]
   generalize D[i]=t at *
   obtain ⟨g,rfl,hgz,e0⟩:=HA.out i l hli
   have e0:=(World.cell?_of_block (hbI.block g hgz)).trans e0
   unfold layPtr at e0
   have hW:=HW.out.below hbI
   have hT:=hW.tabs i l t hli hdi
   obtain ⟨cv,hbl,hcv,_⟩:=hT.blk
   obtain ⟨ca,cc,rfl⟩:=own_slice1 hcv
   have n0:=bC hbl 0
   have n1:=bC hbl 1
   simp at n0 n1
   have hlz:=lB hbl
   have hok:=hW.ok.2 t (List.mem_of_getElem? hdi)
   have hbd:Below wr.heap.size wr wr.drew:=(Below.refl _ _).drew
   have HC1:=Z (str_ret (brColsM HX.out t.cols _ wr.drew ((HG.out.below hbI).below hbd) ((own_rows (f:=tcC) (fun _=>rfl) hcv (Nat.le_refl _)).below hbd) hok.ncols hok.cols))
   have hpl:=Pl.tabs_len HW.out.ok i
   have HWr:Hid (∀ W,BdI w W (((D.take i).map Pl.tabText).flatten)->Calls Tryz.prog 37 #[.pointer (some ⟨w.heap.size,0,none⟩),.string ⟨(Pl.headLine t).toArray⟩] W fun e w'=>∃ v,e=.returned v/\BdI w w' (((D.take i).map Pl.tabText).flatten++Pl.headLine t)):=fun W hW'=>write_ret HX.out hW' (by have:=Pl.head_len hok;omega)
   have hxl:=Pl.cols_len hok
   have hnl:=hok.name
   have HTT:=Z (Pl.tabText_eq t)
   have HHl:=Z (Pl.head_len hok)
   have eh:(⟨(Pl.headLine t).toArray⟩:ByteArray)=_:=(s_head t.name (Pl.brackets (t.cols.map Pl.colText))).symm
   rw [eh] at HWr
   clear eh
   generalize Pl.brackets (t.cols.map Pl.colText)=x at *
   have HTi:Hid (∀ W,Below w.heap.size w W->TabW W M l t):=fun W hW'=>(HW.out.below hW').tabs i l t hli hdi
   have HOk:=Z hok
   have hgz':g<wr.heap.size:=Nat.lt_of_lt_of_le hgz hbI.size
   have HBd:Hid (BdI w wr.drew (((D.take i).map Pl.tabText).flatten)):=HI.out.drew
   have hnr:=hok.nrows
   clear hW hT hbl hcv hok hbd hli hdi
   have a1:¬ (9223372036854775807<13+t.name.length):=by omega
   have a2:¬ (9223372036854775807<13+t.name.length+1):=by omega
   have a3:¬ (9223372036854775807<13+t.name.length+1+x.length):=by omega
   have a4:¬ (9223372036854775807<13+t.name.length+1+x.length+1):=by omega
   go_upto_region 5 with fail
   go_cut [] (fun wx=>Hid (BdI w wx (((D.take i).map Pl.tabText).flatten++Pl.headLine t)))
   case first =>
    go_region_law (first
     | (refine step_call2 rfl 38 (.tmp 26) (.func 39) _ rfl (.slice ca t.cols.length cc) (.func (.func 39) #[] #[]) (ent_brCols _ _) (by simp [Act.eval,Act.put]) (by simp [Act.eval,Act.put]) _ (U HC1) ?_
        rintro v3 w3 ⟨rfl,hb3⟩
        have z3:l.n<w3.heap.size:=Nat.lt_of_lt_of_le hlz hb3.size
        have m0:=(World.cell?_of_block (hb3.block l.n hlz)).trans n0
        have HB3:=Z (HBd.out.below hb3)
        clear hb3)
     | (refine step_call2 rfl 37 (.tmp 3) (.tmp 29) _ rfl (.pointer (some ⟨w.heap.size,0,none⟩)) (.string _) (ent_write _ _) (by simp [Act.eval,Act.put]) (by simp [Act.eval,Act.put]) _ ((U HWr) _ HB3.out) ?_
        intro v4 w4 hb4
        have HB4:=Z hb4
        clear hb4))
    all_goals go_wp2_with fail
    all_goals go_meet
    all_goals exact HB4.out
   case rest =>
    have HB5:=hcut
    have hb5:=HB5.out.1
    obtain ⟨cv5,hbl,_,_⟩:=(HTi.out wc hb5).blk
    have m0:=bC hbl 0
    have m2:=bC hbl 2
    simp at m0 m2
    have hlz5:=lB hbl
    obtain ⟨ra,rc,hrv,hrat⟩:=(HTi.out wc hb5).at_
    rw [hrv] at m2
    have HRa:Hid (∀ W,Below w.heap.size w W->∀ (j:Nat) (r:List Pl.V),t.rows[j]?=some r->∃ g u,ra=some ⟨g,0,none⟩/\g<W.heap.size/\W.cell? ⟨g,j,none⟩=some u/\RowsW W W.heap.size 3 vC r u):=fun W hW j r hr=>by
     obtain ⟨ra',rc',hrv',hrat'⟩:=(HTi.out W hW).at_
     rw [hrv] at hrv'
     cases hrv'
     exact hrat' j r hr
    have HBl:Hid (∀ W,Below w.heap.size w W->W.cell? ⟨l.n,0,none⟩=some (.string ⟨t.name.toArray⟩)/\l.n<W.heap.size):=fun W hW=>by
     obtain ⟨cv6,hbl6,_,_⟩:=(HTi.out W hW).blk
     have:=bC hbl6 0
     simp at this
     exact ⟨this,lB hbl6⟩
    generalize ((D.take i).map Pl.tabText).flatten=pre at *
    have HHd:Hid ((pre++Pl.headLine t).length<=300000):=by
     unfold Hid
     have:=HHl.out
     rw [List.length_append];omega
    generalize Pl.headLine t=hd at *
    clear hcut hbl hrv hrat hb5 HC1 HWr HBd e0 n0 n1 hlz HHl
    go_wp2_with fail
    go_loopw [36] (fun s36 wr2=>∃ j:Nat,j<=t.rows.length/\s36=.int .i64 j/\Hid (BdI w wr2 (pre++hd++((t.rows.take j).map (Pl.rowLine t.name)).flatten))) (fun a _=>t.rows.length - (intOf a).toNat)
    case atStart=>exact ⟨0,Nat.zero_le _,rfl,by simpa [Hid] using HB5.out⟩
    case round =>
     obtain ⟨j,hj,rfl,HJ⟩:=hrel
     have hbJ:=HJ.out.1
     by_cases hjl:j<t.rows.length
     ·have hrj:t.rows[j]?=some t.rows[j]:=List.getElem?_eq_getElem hjl
      have HRk:Hid (((t.rows.take (j+1)).map (Pl.rowLine t.name)).flatten=((t.rows.take j).map (Pl.rowLine t.name)).flatten++Pl.rowLine t.name t.rows[j]):=by
       unfold Hid
       rw [List.take_add_one,hrj]
       simp only [Option.toList_some,List.map_append,List.map_cons,List.map_nil,List.flatten_append,List.flatten_cons,List.flatten_nil,List.append_nil]
      have hmem:=List.mem_of_getElem? hrj
      have hvl:=Pl.vals_len HOk.out hmem
      have hrl:=Pl.rowLine_len HOk.out hmem
      have hrw:=Pl.rows_len HOk.out j
      obtain ⟨g2,u2,rfl,hg2,e2,hu2⟩:=HRa.out _ hbJ j _ hrj
      obtain ⟨k0,hlz⟩:=HBl.out _ hbJ
      have hbd:Below wr.heap.size wr wr.drew:=(Below.refl _ _).drew
      have HC2:=Z (str_ret (brValsM HX.out t.rows[j] _ wr.drew ((HG.out.below hbJ).below hbd) (hu2.below hbd) (Pl.row_okV HOk.out hmem).1 (Pl.row_okV HOk.out hmem).2))
      have HWr:Hid (∀ W,BdI w W (pre++hd++((t.rows.take j).map (Pl.rowLine t.name)).flatten)->Calls Tryz.prog 37 #[.pointer (some ⟨w.heap.size,0,none⟩),.string ⟨(Pl.rowLine t.name t.rows[j]).toArray⟩] W fun e w'=>∃ v,e=.returned v/\BdI w w' (pre++hd++((t.rows.take j).map (Pl.rowLine t.name)).flatten++Pl.rowLine t.name t.rows[j])):=fun W hW'=>write_ret HX.out hW' (by have:=HHd.out;rw [List.length_append];omega)
      have eh:(⟨(Pl.rowLine t.name t.rows[j]).toArray⟩:ByteArray)=_:=(s_line t.name (Pl.brackets (t.rows[j].map Pl.valText))).symm
      rw [eh] at HWr
      obtain ⟨ua,uc,rfl⟩:=hu2.slice
      generalize Pl.brackets (t.rows[j].map Pl.valText)=y at *
      generalize t.rows[j]=r at *
      have HBj:=Z HJ.out.drew
      clear eh hmem hrj hu2 hrl hbd hbJ
      have b1:¬ (9223372036854775807<12+t.name.length):=by omega
      have b2:¬ (9223372036854775807<12+t.name.length+8):=by omega
      have b3:¬ (9223372036854775807<12+t.name.length+8+y.length):=by omega
      have b4:¬ (9223372036854775807<12+t.name.length+8+y.length+1):=by omega
      go_upto_region 9 with fail
      go_region_law (first
       | (refine step_call2 rfl 40 (.tmp 46) (.func 41) _ rfl (.slice ua r.length uc) (.func (.func 41) #[] #[]) (ent_brVals _ _) (by simp [Act.eval,Act.put]) (by simp [Act.eval,Act.put]) _ (U HC2) ?_
          rintro v3 w3 ⟨rfl,hb3⟩
          have z3:l.n<w3.heap.size:=Nat.lt_of_lt_of_le hlz hb3.size
          have o0:=(World.cell?_of_block (hb3.block l.n hlz)).trans k0
          have HB3:=Z (HBj.out.below hb3)
          clear hb3)
       | (refine step_call2 rfl 37 (.tmp 3) (.tmp 49) _ rfl (.pointer (some ⟨w.heap.size,0,none⟩)) (.string _) (ent_write _ _) (by simp [Act.eval,Act.put]) (by simp [Act.eval,Act.put]) _ ((U HWr) _ HB3.out) ?_
          intro v4 w4 hb4
          have HB4:=Z hb4
          clear hb4))
      all_goals
       have HJ2:Hid (BdI w w4 (pre++hd++((t.rows.take (j+1)).map (Pl.rowLine t.name)).flatten)):=by
        unfold Hid
        rw [HRk.out,<- List.append_assoc]
        exact HB4.out
       clear HB3 HB4 HRk HWr HC2 HBj HJ
       go_wp2_with fail
       go_roundw
       case rel=>exact ⟨j+1,by omega,by go_num,HJ2.out⟩
       case measure=>simp [intOf];omega
     ·obtain rfl:j=t.rows.length:=by omega
      have HI2:Hid (BdI w wr (((D.take (i+1)).map Pl.tabText).flatten)):=by
       unfold Hid
       have:=HJ.out
       rw [List.take_length,List.append_assoc,<- HTT.out,<- HTk.out] at this
       exact this
      clear HJ hbJ
      go_wp2_with fail
      go_roundw
      case rel=>exact ⟨i+1,by omega,by go_num,HI2.out⟩
      case measure=>simp [intOf];omega
  ·obtain rfl:i=D.length:=by omega
   have HE:Hid (Pl.save D=(D.map Pl.tabText).flatten):=rfl
   have HC:=Z (HX.out.str _ _ _ wr HI.out.2 hbI.size)
   rw [List.take_length] at HC
   have HBI:=Z hbI
   clear hbI HI HS
   go_wp2_with fail
   refine (U HC).mono ?_
   rintro e w1 ⟨rfl,hb1⟩
   have HB1:=Z (HBI.out.trans hb1)
   clear hb1 HC
   go_wp2_with fail
   go_ret
   exact ⟨ret_str (by rw [HE.out]),HB1.out⟩
structure SvG (w:World)(M:Nat->Prop):Prop where
 g:SaveG w
 not:∀ k,k = 5\/k = 2\/k = 0->¬ M k
theorem SvG.step {w w':World}{M M':Nat->Prop}(h:SvG w M)(hs:Stp w M w' M'):SvG w' M' :=
 ⟨h.g.keep (fun k hk=>hs.keep.block k ⟨h.g.lts k hk,h.not k hk⟩),fun k hk=>hs.not (h.g.lts k hk) (h.not k hk)⟩
theorem SvG.new {w:World}(h:SaveG w):SvG (w.alloc dbO) (oneB w.heap.size) :=
 ⟨h.below ((Below.refl _ _).alloc (Nat.le_refl _) _),fun k hk e=>by
  have h1:=h.lts k hk
  have e':k=w.heap.size:=e
  omega⟩
end Go.Proofs.YtojdpjpldokjmaaGreatDoor
