/- The code's Save: the whole. -/
import Derived.Test.YtojdpjpldokjmaaGreatDoorS23
import Derived.Test.YtojdpjpldokjmaaGreatDoorS20
import Derived.Test.YtojdpjpldokjmaaGreatDoorS21
import Derived.Test.YtojdpjpldokjmaaGreatDoorS05
import Derived.Test.YtojdpjpldokjmaaGreatDoorS06
import Derived.Test.YtojdpjpldokjmaaGreatDoorS09
set_option maxHeartbeats 60000000
set_option maxRecDepth 100000
namespace Go.Proofs.YtojdpjpldokjmaaGreatDoor.Pl
def headLine (t:Tab):List UInt8 := [67,82,69,65,84,69,32,84,65,66,76,69,32] ++ t.name ++ [32] ++ brackets (t.cols.map colText) ++ [10]
theorem tabText_eq (t:Tab):tabText t = headLine t ++ (t.rows.map (rowLine t.name)).flatten := by simp [tabText,headLine]
theorem brackets_len {l:List (List UInt8)} (h:∀ x ∈ l,x.length <= 100) (hn:l.length <= 5):(brackets l).length <= 600 := by
 have := sepJoin_len l h
 simp [brackets]; omega
theorem cols_len {t:Tab} (h:okTab t):(brackets (t.cols.map colText)).length <= 600 := brackets_len (fun x hx=>by obtain ⟨c,hc,rfl⟩ := List.mem_map.1 hx; exact colText_len (h.cols c hc).2) (by rw [List.length_map]; exact h.ncols)
theorem head_len {t:Tab} (h:okTab t):(headLine t).length <= 1000 := by
 have := cols_len h
 have := h.name
 simp [headLine]; omega
theorem row_okV {t:Tab} (h:okTab t) {r:List V} (hr:r ∈ t.rows):r.length <= 5 /\ ∀ x ∈ r,okV x := by
 obtain ⟨h1,h2,_⟩ := h.rows r hr
 have := h.ncols
 refine ⟨?_,h2⟩
 rw [h1]; simpa [scope] using this
theorem vals_len {t:Tab} (h:okTab t) {r:List V} (hr:r ∈ t.rows):(brackets (r.map valText)).length <= 600 := brackets_len (fun x hx=>by obtain ⟨c,hc,rfl⟩ := List.mem_map.1 hx; exact valText_len ((row_okV h hr).2 c hc)) (by rw [List.length_map]; exact (row_okV h hr).1)
theorem rowLine_len {t:Tab} (h:okTab t) {r:List V} (hr:r ∈ t.rows):(rowLine t.name r).length <= 1000 := by
 have := vals_len h hr
 have := h.name
 simp [rowLine]; omega
theorem flat_len {m:Nat}:∀ l:List (List UInt8),(∀ x ∈ l,x.length <= m) -> l.flatten.length <= l.length * m
 | [],_=>by simp
 | x :: r,h=>by
   have h1 := h x (by simp)
   have h2 := flat_len r (fun y hy=>h y (by simp [hy]))
   simp only [List.flatten_cons,List.length_append,List.length_cons,Nat.succ_mul]; omega
theorem rows_len {t:Tab} (h:okTab t) (j:Nat):(((t.rows.take j).map (rowLine t.name)).flatten).length <= 25000 := by
 have h1 := flat_len (m := 1000) ((t.rows.take j).map (rowLine t.name)) (fun x hx=>by obtain ⟨c,hc,rfl⟩ := List.mem_map.1 hx; exact rowLine_len h (List.mem_of_mem_take hc))
 have h2 := h.nrows
 rw [List.length_map,List.length_take] at h1
 have:min j t.rows.length * 1000 <= 25 * 1000 := Nat.mul_le_mul_right _ (by omega)
 omega
theorem tabText_len {t:Tab} (h:okTab t):(tabText t).length <= 26000 := by
 have h1 := rows_len h t.rows.length
 have h2 := head_len h
 rw [List.take_length] at h1
 rw [tabText_eq,List.length_append]; omega
theorem tabs_len {D:DB} (h:okDB D) (i:Nat):(((D.take i).map tabText).flatten).length <= 200000 := by
 have h1 := flat_len (m := 26000) ((D.take i).map tabText) (fun x hx=>by obtain ⟨c,hc,rfl⟩ := List.mem_map.1 hx; exact tabText_len (h.2 c (List.mem_of_mem_take hc)))
 have h2 := h.1
 rw [List.length_map,List.length_take] at h1
 have:min i D.length * 26000 <= 6 * 26000 := Nat.mul_le_mul_right _ (by omega)
 omega
end Go.Proofs.YtojdpjpldokjmaaGreatDoor.Pl
namespace Go.Proofs.YtojdpjpldokjmaaGreatDoor
open Go.RowKit Go.Deep
set_option linter.unusedSimpArgs false
set_option linter.unusedVariables false
theorem ent_brCols (vs:Array Value) (w:World):(callFunc 38 vs).run Tryz.prog w = .ok (.enter 38 vs) w := by
 have h1:(Tryz.f38.name == "runtime.NumGoroutine") = false := by kernel_rfl
 have h2 : Tryz.f38.body.isNone = false := by kernel_rfl
 have h1':¬ Tryz.f38.name = "runtime.NumGoroutine" := by simpa using h1
 have h2':¬ Tryz.f38.body = none := by intro e; rw [e] at h2; cases h2
 simp [callFunc,go_sem,Tryz.func38,h1',h2']
theorem ent_brVals (vs:Array Value) (w:World):(callFunc 40 vs).run Tryz.prog w = .ok (.enter 40 vs) w := by
 have h1:(Tryz.f40.name == "runtime.NumGoroutine") = false := by kernel_rfl
 have h2 : Tryz.f40.body.isNone = false := by kernel_rfl
 have h1':¬ Tryz.f40.name = "runtime.NumGoroutine" := by simpa using h1
 have h2':¬ Tryz.f40.body = none := by intro e; rw [e] at h2; cases h2
 simp [callFunc,go_sem,Tryz.func40,h1',h2']
theorem ent_write (vs:Array Value) (w:World):(callFunc 37 vs).run Tryz.prog w = .ok (.enter 37 vs) w := by
 have h1:(Tryz.f37.name == "runtime.NumGoroutine") = false := by kernel_rfl
 have h2 : Tryz.f37.body.isNone = false := by kernel_rfl
 have h1':¬ Tryz.f37.name = "runtime.NumGoroutine" := by simpa using h1
 have h2':¬ Tryz.f37.body = none := by intro e; rw [e] at h2; cases h2
 simp [callFunc,go_sem,Tryz.func37,h1',h2']
theorem s_head (n c:List UInt8):(((({ data := #[67,82,69,65,84,69,32,84,65,66,76,69,32] }:ByteArray) ++ { data := n.toArray }) ++ { data := #[32] }) ++ { data := c.toArray }) ++ { data := #[10] } = ⟨([67,82,69,65,84,69,32,84,65,66,76,69,32] ++ n ++ [32] ++ c ++ [10]).toArray⟩ := by
 rw [show (#[67,82,69,65,84,69,32,84,65,66,76,69,32]:Array UInt8) = [67,82,69,65,84,69,32,84,65,66,76,69,32].toArray from rfl,show (#[32]:Array UInt8) = [32].toArray from rfl,show (#[10]:Array UInt8) = [10].toArray from rfl]
 rw [cat2',cat2',cat2',cat2']
theorem s_line (n c:List UInt8):(((({ data := #[73,78,83,69,82,84,32,73,78,84,79,32] }:ByteArray) ++ { data := n.toArray }) ++ { data := #[32,86,65,76,85,69,83,32] }) ++ { data := c.toArray }) ++ { data := #[10] } = ⟨([73,78,83,69,82,84,32,73,78,84,79,32] ++ n ++ [32,86,65,76,85,69,83,32] ++ c ++ [10]).toArray⟩ := by
 rw [show (#[73,78,83,69,82,84,32,73,78,84,79,32]:Array UInt8) = [73,78,83,69,82,84,32,73,78,84,79,32].toArray from rfl,show (#[32,86,65,76,85,69,83,32]:Array UInt8) = [32,86,65,76,85,69,83,32].toArray from rfl,show (#[10]:Array UInt8) = [10].toArray from rfl]
 rw [cat2',cat2',cat2',cat2']
def BdI (w wr:World) (l:List UInt8):Prop := Below w.heap.size w wr /\ Lib.IsBuilder 86 5 w.heap.size w.heap.size (Lib.byteCells l) wr
theorem write_ret (X:SaveLib) {w wr:World} {l s:List UInt8} (h:BdI w wr l) (hl:l.length + s.length <= 100000000):Calls Tryz.prog 37 #[.pointer (some ⟨w.heap.size,0,none⟩),.string ⟨s.toArray⟩] wr fun e w' => ∃ v,e = .returned v /\ BdI w w' (l ++ s) :=
 (X.write _ _ l s wr h.2 hl h.1.size).mono fun e w' ⟨v,he,hb,hbel⟩=>⟨v,he,h.1.trans hbel,hb⟩
theorem builder_below {T e:TypeId} {B b:Nat} {p:Value} {bs:List Value} {wr w':World} (h:Lib.BuilderAt T e B b p bs wr) (hb:Below wr.heap.size wr w'):Lib.BuilderAt T e B b p bs w' := by
 obtain ⟨h1,v,h2,h3,h4⟩ := h
 exact ⟨h1,v,(hb.block b (lt_of_blk h2)).trans h2,own_below hb h3,h4⟩
theorem BdI.below {w wr w':World} {l:List UInt8} (h:BdI w wr l) (hb:Below wr.heap.size wr w'):BdI w w' l := ⟨h.1.trans (hb.mono h.1.size),h.2.imp (fun h=>builder_below h hb) (fun h=>builder_below h hb)⟩
theorem BdI.drew {w wr:World} {l:List UInt8} (h:BdI w wr l):BdI w wr.drew l := h.below (Below.refl _ _).drew
theorem TabW.at_ {w:World} {M:Nat -> Prop} {l:Lay} {t:Pl.Tab} (h:TabW w M l t):∃ ra rc,l.rv = .slice ra t.rows.length rc /\ ∀ (j:Nat) (r:List Pl.V),t.rows[j]? = some r -> ∃ g u,ra = some ⟨g,0,none⟩ /\ g < w.heap.size /\ w.cell? ⟨g,j,none⟩ = some u /\ RowsW w w.heap.size 3 vC r u := by
 obtain ⟨⟨h1,h2⟩,hz,_⟩ := tabMat h
 have hlen:(t.rows.zip l.us).length = t.rows.length := by rw [<- List.length_map (f := (·.1)),hz]
 obtain ⟨ra,rc,hrv⟩ := h1.slice
 refine ⟨ra,rc,by rw [hrv,hlen],fun j r hr=>?_⟩
 have hj:j < (t.rows.zip l.us).length := by rw [hlen]; exact (List.getElem?_eq_some_iff.1 hr).1
 have hq:(t.rows.zip l.us)[j]? = some (t.rows.zip l.us)[j] := List.getElem?_eq_getElem hj
 have he:(t.rows.zip l.us)[j].1 = r := by
   have h3:((t.rows.zip l.us).map (·.1))[j]? = some r := by rw [hz]; exact hr
   rw [List.getElem?_map,hq] at h3
   simpa using h3
 obtain ⟨g,cap,e,hg,hc⟩ := h1.at1 (f := fun p=>p.2) hq
 rw [hrv] at e
 cases e
 refine ⟨g,_,rfl,hg,hc,?_⟩
 have := h2 _ (List.getElem_mem hj)
 rw [he] at this
 exact this
def PostStr (w:World) (x:List UInt8) (v:Value) (w':World):Prop := v = .string ⟨x.toArray⟩ /\ Below w.heap.size w w'
theorem str_ret {f:Nat} {args:Array Value} {w:World} {x:List UInt8} (h:Calls Tryz.prog f args w fun e w' => e = .returned (.string ⟨x.toArray⟩) /\ Below w.heap.size w w'):Calls Tryz.prog f args w fun e w' => ∃ v,e = .returned v /\ PostStr w x v w' := h.mono fun e w' ⟨h1,h2⟩=>⟨_,h1,rfl,h2⟩
theorem saveM (X:SaveLib) {w:World} {M:Nat -> Prop} {b:Nat} {lay:List Lay} {D:Pl.DB} (h:DbW w M b lay D) (hg:SaveG w):Calls Tryz.prog 27 #[.pointer (some ⟨b,0,none⟩)] w fun e w' => e = .returned (.string ⟨(Pl.save D).toArray⟩) /\ Below w.heap.size w w' := by
 obtain ⟨ta,tc,hbx,hat⟩ := h.slice
 have hb := lt_of_blk hbx
 have c0 := blk_cell hbx 0
 simp at c0
 have hD:D.length <= 6 := h.ok.1
 have HA := hide hat
 have HW := hide h
 have HG := hide hg
 have HX := hide X
 have HS:Hid (BdI w (w.alloc (.cells #[.pointer none,.slice none 0 0] 86)) []) := ⟨(Below.refl _ _).alloc (Nat.le_refl _) _,Lib.fresh_isBuilder _ _ _⟩
 have hpz:w.heap.size = w.heap.size := rfl
 clear h hbx hat hg X hpz
 go_enter Tryz.func27,Tryz.ntmps27
 go_wp2_with fail
 go_loopw [13] (fun s13 wr=>∃ i:Nat,i <= D.length /\ s13 = .int .i64 i /\ Hid (BdI w wr (((D.take i).map Pl.tabText).flatten))) (fun a _=>D.length - (intOf a).toNat)
 case atStart=>exact ⟨0,Nat.zero_le _,rfl,HS.out⟩
 case round =>
   obtain ⟨i,hi,rfl,HI⟩ := hrel
   have hbI := HI.out.1
   by_cases hlt:i < D.length
   · have hdi:D[i]? = some D[i] := List.getElem?_eq_getElem hlt
     have hli:lay[i]? = some (lay[i]'(by rw [HW.out.len]; exact hlt)) := List.getElem?_eq_getElem _
     generalize lay[i]'(by rw [HW.out.len]; exact hlt) = l at *
     have HTk:Hid (((D.take (i + 1)).map Pl.tabText).flatten = ((D.take i).map Pl.tabText).flatten ++ Pl.tabText D[i]) := by
       unfold Hid
       rw [List.take_add_one,hdi]
       simp only [Option.toList_some,List.map_append,List.map_cons,List.map_nil,List.flatten_append,List.flatten_cons,List.flatten_nil,List.append_nil]
     generalize D[i] = t at *
     obtain ⟨g,rfl,hgz,e0⟩ := HA.out i l hli
     have e0 := (World.cell?_of_block (hbI.block g hgz)).trans e0
     unfold layPtr at e0
     have hW := HW.out.below hbI
     have hT := hW.tabs i l t hli hdi
     obtain ⟨cv,hbl,hcv,_⟩ := hT.blk
     obtain ⟨ca,cc,rfl⟩ := own_slice1 hcv
     have n0 := blk_cell hbl 0
     have n1 := blk_cell hbl 1
     simp at n0 n1
     have hlz := lt_of_blk hbl
     have hok := hW.ok.2 t (List.mem_of_getElem? hdi)
     have hbd:Below wr.heap.size wr wr.drew := (Below.refl _ _).drew
     have HC1 := hide (str_ret (brColsM HX.out t.cols _ wr.drew ((HG.out.below hbI).below hbd) ((own_rows (f := tcC) (fun _=>rfl) hcv (Nat.le_refl _)).below hbd) hok.ncols hok.cols))
     have hpl := Pl.tabs_len HW.out.ok i
     have HWr:Hid (∀ W,BdI w W (((D.take i).map Pl.tabText).flatten) -> Calls Tryz.prog 37 #[.pointer (some ⟨w.heap.size,0,none⟩),.string ⟨(Pl.headLine t).toArray⟩] W fun e w' => ∃ v,e = .returned v /\ BdI w w' (((D.take i).map Pl.tabText).flatten ++ Pl.headLine t)) := fun W hW' => write_ret HX.out hW' (by have := Pl.head_len hok; omega)
     have hxl := Pl.cols_len hok
     have hnl := hok.name
     have HTT := hide (Pl.tabText_eq t)
     have HHl := hide (Pl.head_len hok)
     have eh:(⟨(Pl.headLine t).toArray⟩:ByteArray) = _ := (s_head t.name (Pl.brackets (t.cols.map Pl.colText))).symm
     rw [eh] at HWr
     clear eh
     generalize Pl.brackets (t.cols.map Pl.colText) = x at *
     have HTi:Hid (∀ W,Below w.heap.size w W -> TabW W M l t) := fun W hW' => (HW.out.below hW').tabs i l t hli hdi
     have HOk := hide hok
     have hgz':g < wr.heap.size := Nat.lt_of_lt_of_le hgz hbI.size
     have HBd:Hid (BdI w wr.drew (((D.take i).map Pl.tabText).flatten)) := HI.out.drew
     have hnr := hok.nrows
     clear hW hT hbl hcv hok hbd hli hdi
     have a1:¬ (9223372036854775807 < 13 + t.name.length) := by omega
     have a2:¬ (9223372036854775807 < 13 + t.name.length + 1) := by omega
     have a3:¬ (9223372036854775807 < 13 + t.name.length + 1 + x.length) := by omega
     have a4:¬ (9223372036854775807 < 13 + t.name.length + 1 + x.length + 1) := by omega
     go_upto_region 5 with fail
     go_cut [] (fun wx=>Hid (BdI w wx (((D.take i).map Pl.tabText).flatten ++ Pl.headLine t)))
     case first =>
       go_region_law (first
         | (refine step_call2 rfl 38 (.tmp 26) (.func 39) _ rfl (.slice ca t.cols.length cc) (.func (.func 39) #[] #[]) (ent_brCols _ _) (by simp [Act.eval,Act.put]) (by simp [Act.eval,Act.put]) _ (unhide HC1) ?_
            rintro v3 w3 ⟨rfl,hb3⟩
            have z3:l.n < w3.heap.size := Nat.lt_of_lt_of_le hlz hb3.size
            have m0 := (World.cell?_of_block (hb3.block l.n hlz)).trans n0
            have HB3 := hide (HBd.out.below hb3)
            clear hb3)
         | (refine step_call2 rfl 37 (.tmp 3) (.tmp 29) _ rfl (.pointer (some ⟨w.heap.size,0,none⟩)) (.string _) (ent_write _ _) (by simp [Act.eval,Act.put]) (by simp [Act.eval,Act.put]) _ ((unhide HWr) _ HB3.out) ?_
            intro v4 w4 hb4
            have HB4 := hide hb4
            clear hb4))
       all_goals go_wp2_with fail
       all_goals go_meet
       all_goals exact HB4.out
     case rest =>
       have HB5 := hcut
       have hb5 := HB5.out.1
       obtain ⟨cv5,hbl,_,_⟩ := (HTi.out wc hb5).blk
       have m0 := blk_cell hbl 0
       have m2 := blk_cell hbl 2
       simp at m0 m2
       have hlz5 := lt_of_blk hbl
       obtain ⟨ra,rc,hrv,hrat⟩ := (HTi.out wc hb5).at_
       rw [hrv] at m2
       have HRa:Hid (∀ W,Below w.heap.size w W -> ∀ (j:Nat) (r:List Pl.V),t.rows[j]? = some r -> ∃ g u,ra = some ⟨g,0,none⟩ /\ g < W.heap.size /\ W.cell? ⟨g,j,none⟩ = some u /\ RowsW W W.heap.size 3 vC r u) := fun W hW j r hr=>by
         obtain ⟨ra',rc',hrv',hrat'⟩ := (HTi.out W hW).at_
         rw [hrv] at hrv'
         cases hrv'
         exact hrat' j r hr
       have HBl:Hid (∀ W,Below w.heap.size w W -> W.cell? ⟨l.n,0,none⟩ = some (.string ⟨t.name.toArray⟩) /\ l.n < W.heap.size) := fun W hW=>by
         obtain ⟨cv6,hbl6,_,_⟩ := (HTi.out W hW).blk
         have := blk_cell hbl6 0
         simp at this
         exact ⟨this,lt_of_blk hbl6⟩
       generalize ((D.take i).map Pl.tabText).flatten = pre at *
       have HHd:Hid ((pre ++ Pl.headLine t).length <= 300000) := by
         unfold Hid
         have := HHl.out
         rw [List.length_append]; omega
       generalize Pl.headLine t = hd at *
       clear hcut hbl hrv hrat hb5 HC1 HWr HBd e0 n0 n1 hlz HHl
       go_wp2_with fail
       go_loopw [36] (fun s36 wr2=>∃ j:Nat,j <= t.rows.length /\ s36 = .int .i64 j /\ Hid (BdI w wr2 (pre ++ hd ++ ((t.rows.take j).map (Pl.rowLine t.name)).flatten))) (fun a _=>t.rows.length - (intOf a).toNat)
       case atStart=>exact ⟨0,Nat.zero_le _,rfl,by simpa [Hid] using HB5.out⟩
       case round =>
         obtain ⟨j,hj,rfl,HJ⟩ := hrel
         have hbJ := HJ.out.1
         by_cases hjl:j < t.rows.length
         · have hrj:t.rows[j]? = some t.rows[j] := List.getElem?_eq_getElem hjl
           have HRk:Hid (((t.rows.take (j + 1)).map (Pl.rowLine t.name)).flatten = ((t.rows.take j).map (Pl.rowLine t.name)).flatten ++ Pl.rowLine t.name t.rows[j]) := by
             unfold Hid
             rw [List.take_add_one,hrj]
             simp only [Option.toList_some,List.map_append,List.map_cons,List.map_nil,List.flatten_append,List.flatten_cons,List.flatten_nil,List.append_nil]
           have hmem := List.mem_of_getElem? hrj
           have hvl := Pl.vals_len HOk.out hmem
           have hrl := Pl.rowLine_len HOk.out hmem
           have hrw := Pl.rows_len HOk.out j
           obtain ⟨g2,u2,rfl,hg2,e2,hu2⟩ := HRa.out _ hbJ j _ hrj
           obtain ⟨k0,hlz⟩ := HBl.out _ hbJ
           have hbd:Below wr.heap.size wr wr.drew := (Below.refl _ _).drew
           have HC2 := hide (str_ret (brValsM HX.out t.rows[j] _ wr.drew ((HG.out.below hbJ).below hbd) (hu2.below hbd) (Pl.row_okV HOk.out hmem).1 (Pl.row_okV HOk.out hmem).2))
           have HWr:Hid (∀ W,BdI w W (pre ++ hd ++ ((t.rows.take j).map (Pl.rowLine t.name)).flatten) -> Calls Tryz.prog 37 #[.pointer (some ⟨w.heap.size,0,none⟩),.string ⟨(Pl.rowLine t.name t.rows[j]).toArray⟩] W fun e w' => ∃ v,e = .returned v /\ BdI w w' (pre ++ hd ++ ((t.rows.take j).map (Pl.rowLine t.name)).flatten ++ Pl.rowLine t.name t.rows[j])) := fun W hW' => write_ret HX.out hW' (by have := HHd.out; rw [List.length_append]; omega)
           have eh:(⟨(Pl.rowLine t.name t.rows[j]).toArray⟩:ByteArray) = _ := (s_line t.name (Pl.brackets (t.rows[j].map Pl.valText))).symm
           rw [eh] at HWr
           obtain ⟨ua,uc,rfl⟩ := hu2.slice
           generalize Pl.brackets (t.rows[j].map Pl.valText) = y at *
           generalize t.rows[j] = r at *
           have HBj := hide HJ.out.drew
           clear eh hmem hrj hu2 hrl hbd hbJ
           have b1:¬ (9223372036854775807 < 12 + t.name.length) := by omega
           have b2:¬ (9223372036854775807 < 12 + t.name.length + 8) := by omega
           have b3:¬ (9223372036854775807 < 12 + t.name.length + 8 + y.length) := by omega
           have b4:¬ (9223372036854775807 < 12 + t.name.length + 8 + y.length + 1) := by omega
           go_upto_region 9 with fail
           go_region_law (first
             | (refine step_call2 rfl 40 (.tmp 46) (.func 41) _ rfl (.slice ua r.length uc) (.func (.func 41) #[] #[]) (ent_brVals _ _) (by simp [Act.eval,Act.put]) (by simp [Act.eval,Act.put]) _ (unhide HC2) ?_
                rintro v3 w3 ⟨rfl,hb3⟩
                have z3:l.n < w3.heap.size := Nat.lt_of_lt_of_le hlz hb3.size
                have o0 := (World.cell?_of_block (hb3.block l.n hlz)).trans k0
                have HB3 := hide (HBj.out.below hb3)
                clear hb3)
             | (refine step_call2 rfl 37 (.tmp 3) (.tmp 49) _ rfl (.pointer (some ⟨w.heap.size,0,none⟩)) (.string _) (ent_write _ _) (by simp [Act.eval,Act.put]) (by simp [Act.eval,Act.put]) _ ((unhide HWr) _ HB3.out) ?_
                intro v4 w4 hb4
                have HB4 := hide hb4
                clear hb4))
           all_goals
             have HJ2:Hid (BdI w w4 (pre ++ hd ++ ((t.rows.take (j + 1)).map (Pl.rowLine t.name)).flatten)) := by
               unfold Hid
               rw [HRk.out,<- List.append_assoc]
               exact HB4.out
             clear HB3 HB4 HRk HWr HC2 HBj HJ
             go_wp2_with fail
             go_roundw
             case rel=>exact ⟨j + 1,by omega,by go_num,HJ2.out⟩
             case measure=>simp [intOf]; omega
         · obtain rfl:j = t.rows.length := by omega
           have HI2:Hid (BdI w wr (((D.take (i + 1)).map Pl.tabText).flatten)) := by
             unfold Hid
             have := HJ.out
             rw [List.take_length,List.append_assoc,<- HTT.out,<- HTk.out] at this
             exact this
           clear HJ hbJ
           go_wp2_with fail
           go_roundw
           case rel=>exact ⟨i + 1,by omega,by go_num,HI2.out⟩
           case measure=>simp [intOf]; omega
   · obtain rfl:i = D.length := by omega
     have HE:Hid (Pl.save D = (D.map Pl.tabText).flatten) := rfl
     have HC := hide (HX.out.str _ _ _ wr HI.out.2 hbI.size)
     rw [List.take_length] at HC
     have HBI := hide hbI
     clear hbI HI HS
     go_wp2_with fail
     refine (unhide HC).mono ?_
     rintro e w1 ⟨rfl,hb1⟩
     have HB1 := hide (HBI.out.trans hb1)
     clear hb1 HC
     go_wp2_with fail
     go_ret
     exact ⟨ret_str (by rw [HE.out]),HB1.out⟩
structure SvG (w:World) (M:Nat -> Prop):Prop where
 g:SaveG w
 not:∀ k,k = 5 \/ k = 2 \/ k = 0 -> ¬ M k
theorem SvG.step {w w':World} {M M':Nat -> Prop} (h:SvG w M) (hs:Stp w M w' M'):SvG w' M' :=
 ⟨h.g.keep (fun k hk=>hs.keep.block k ⟨h.g.lts k hk,h.not k hk⟩),fun k hk=>hs.not (h.g.lts k hk) (h.not k hk)⟩
theorem SvG.new {w:World} (h:SaveG w):SvG (w.alloc dbO) (oneB w.heap.size) :=
 ⟨h.below ((Below.refl _ _).alloc (Nat.le_refl _) _),fun k hk e=>by
   have h1 := h.lts k hk
   have e':k = w.heap.size := e
   omega⟩
theorem row_new {W:World} {k:Nat} {r:List Pl.V} {C:Array Value} (h:W.heap[k]? = some (.cells C 34)) (hC:C = (rowC r).toArray):RowsW W W.heap.size 3 vC r (.slice (some ⟨k,0,none⟩) r.length r.length) := by
 subst hC
 have hz := lt_of_blk h
 refine ⟨_,_,rfl,fun hn=>⟨k,rfl,hz,fun i x hx j u hu=>?_⟩⟩
 rw [blk_cell h]
 have h1 := flat_at vC 3 (fun _=>rfl) r i j x u hx hu
 simpa [rowC] using h1
theorem mat_new {W:World} {k:Nat} {rows:List (List Pl.V)} {us:List Value} (h:W.heap[k]? = some (.cells us.toArray 32)) (hl:us.length = rows.length) (hr:∀ (i:Nat) (r:List Pl.V) (u:Value),rows[i]? = some r -> us[i]? = some u -> RowsW W W.heap.size 3 vC r u):MatO W rows (.slice (some ⟨k,0,none⟩) rows.length rows.length) := by
 refine ⟨_,_,rfl,Nat.le_refl _,fun _=>⟨k,0,rfl,lt_of_blk h,fun i r hi=>?_⟩⟩
 have hlt:i < us.length := by rw [hl]; exact (List.getElem?_eq_some_iff.1 hi).1
 refine ⟨us[i],?_,hr i r _ hi (List.getElem?_eq_getElem hlt)⟩
 rw [blk_cell h]
 simp [hlt]
def kWant (k:Nat):List (List Pl.V) := match k with
 | 0=>Pl.kWant0 | 1=>Pl.kWant1 | 2=>Pl.kWant2 | 3=>Pl.kWant3 | 4=>Pl.kWant4 | _=>Pl.kWant5
def rowO (r:List Pl.V):Obj := .cells (rowC r).toArray 34
def rowS (k n:Nat):Value := .slice (some ⟨k,0,none⟩) n n
def kObjs (s:Nat):List Obj :=
 [rowO [Pl.nV 1],rowO [Pl.kX],rowO [Pl.kIts],rowO [Pl.tru false],
  .cells #[.string ⟨Pl.kSel0.toArray⟩,.string ⟨Pl.kSel1.toArray⟩,.string ⟨Pl.kSel2.toArray⟩,.string ⟨Pl.kSel3.toArray⟩,.string ⟨Pl.kSel4.toArray⟩,.string ⟨Pl.kSel5.toArray⟩] 9,
  rowO [Pl.nV 1,Pl.kX],rowO [Pl.nul,Pl.kIts],.cells #[rowS (s + 5) 2,rowS (s + 6) 2] 32,
  rowO [Pl.nV 2],.cells #[rowS (s + 8) 1] 32,
  rowO [Pl.kX],rowO [Pl.kIts],.cells #[rowS (s + 10) 1,rowS (s + 11) 1] 32,
  rowO [Pl.tru false],rowO [Pl.tru true],.cells #[rowS (s + 13) 1,rowS (s + 14) 1] 32,
  rowO [Pl.nV 1,Pl.nV 1],rowO [Pl.nul,Pl.nul],.cells #[rowS (s + 16) 2,rowS (s + 17) 2] 32,
  rowO [Pl.tru false],rowO [Pl.tru false],.cells #[rowS (s + 19) 1,rowS (s + 20) 1] 32,
  .cells #[rowS (s + 7) 2,rowS (s + 9) 1,rowS (s + 12) 2,rowS (s + 15) 2,rowS (s + 18) 2,rowS (s + 21) 2] 29]
theorem fold_old:∀ (os:List Obj) (w:World) (k:Nat),k < w.heap.size -> (os.foldl World.alloc w).heap[k]? = w.heap[k]?
 | [],w,k,h=>rfl
 | o :: os,w,k,h=>by
   rw [List.foldl_cons,fold_old os (w.alloc o) k (by simp; omega)]
   exact ((Below.refl w.heap.size w).alloc (Nat.le_refl _) o).block k h
theorem fold_at:∀ (os:List Obj) (w:World) (j:Nat) (o:Obj),os[j]? = some o -> (os.foldl World.alloc w).heap[w.heap.size + j]? = some o
 | [],w,j,o,h=>by simp at h
 | x :: os,w,0,o,h=>by
   simp at h
   subst h
   rw [List.foldl_cons,Nat.add_zero,fold_old os (w.alloc x) _ (by simp)]
   exact blk_new w x
 | x :: os,w,j + 1,o,h=>by
   rw [List.foldl_cons]
   have := fold_at os (w.alloc x) j o (by simpa using h)
   rw [show (w.alloc x).heap.size + j = w.heap.size + (j + 1) by simp; omega] at this
   exact this
theorem fold_below:∀ (os:List Obj) (w w0:World) (B:Nat),Below B w0 w -> B <= w.heap.size -> Below B w0 (os.foldl World.alloc w)
 | [],w,w0,B,h,_=>h
 | o :: os,w,w0,B,h,hB=>fold_below os (w.alloc o) w0 B (h.alloc hB o) (by simp; omega)
def KnB (W:World) (s:Nat):Prop := ∀ (j:Nat) (o:Obj),(kObjs s)[j]? = some o -> W.heap[s + j]? = some o
structure KnW (w W:World) (g h:Nat):Prop where
 eg:g = w.heap.size + 4
 eh:h = w.heap.size + 22
 bel:Below w.heap.size w W
 blk:KnB W w.heap.size
theorem KnW.new (w:World):KnW w ((kObjs w.heap.size).foldl World.alloc w) (w.heap.size + 4) (w.heap.size + 22) :=
 ⟨rfl,rfl,fold_below _ _ _ _ (Below.refl _ _) (Nat.le_refl _),fun j o h=>fold_at _ _ _ _ h⟩
theorem KnB.step {W W':World} {s:Nat} {M M':Nat -> Prop} (h:KnB W s) (hM:∀ k,M k -> k < s) (hs:Stp W M W' M'):KnB W' s := fun j o ho=>(hs.blk (h j o ho) (fun hm=>by have := hM _ hm; omega)).1
def kV (s k:Nat):Value := match k with
 | 0=>rowS (s + 7) 2 | 1=>rowS (s + 9) 1 | 2=>rowS (s + 12) 2 | 3=>rowS (s + 15) 2 | 4=>rowS (s + 18) 2 | _=>rowS (s + 21) 2
theorem KnB.row {W:World} {s:Nat} (h:KnB W s) (j:Nat) (r:List Pl.V) (hj:(kObjs s)[j]? = some (rowO r)) (n:Nat) (hn:r.length = n):RowsW W W.heap.size 3 vC r (rowS (s + j) n) := by
 subst hn
 exact row_new (h j _ hj) rfl
theorem mat2 {W:World} {s j a b n m:Nat} {r q:List Pl.V} (h:KnB W s) (hj:(kObjs s)[j]? = some (.cells #[rowS (s + a) n,rowS (s + b) m] 32)) (h1:(kObjs s)[a]? = some (rowO r)) (h2:(kObjs s)[b]? = some (rowO q)) (hn:r.length = n) (hm:q.length = m):MatO W [r,q] (rowS (s + j) 2) := by
 refine mat_new (us := [rowS (s + a) n,rowS (s + b) m]) (h j _ hj) rfl (fun i x u hx hu=>?_)
 match i with
 | 0=>simp at hx hu; subst hx hu; exact h.row a _ h1 n hn
 | 1=>simp at hx hu; subst hx hu; exact h.row b _ h2 m hm
 | i + 2=>simp at hx
theorem mat1 {W:World} {s j a n:Nat} {r:List Pl.V} (h:KnB W s) (hj:(kObjs s)[j]? = some (.cells #[rowS (s + a) n] 32)) (h1:(kObjs s)[a]? = some (rowO r)) (hn:r.length = n):MatO W [r] (rowS (s + j) 1) := by
 refine mat_new (us := [rowS (s + a) n]) (h j _ hj) rfl (fun i x u hx hu=>?_)
 match i with
 | 0=>simp at hx hu; subst hx hu; exact h.row a _ h1 n hn
 | i + 1=>simp at hx
theorem KnB.mat {W:World} {s:Nat} (h:KnB W s) (k:Nat) (hk:k < 6):MatO W (kWant k) (kV s k) := by
 match k,hk with
 | 0,_=>exact mat2 h (a := 5) (b := 6) rfl rfl rfl rfl rfl
 | 1,_=>exact mat1 h (a := 8) rfl rfl rfl
 | 2,_=>exact mat2 h (a := 10) (b := 11) rfl rfl rfl rfl rfl
 | 3,_=>exact mat2 h (a := 13) (b := 14) rfl rfl rfl rfl rfl
 | 4,_=>exact mat2 h (a := 16) (b := 17) rfl rfl rfl rfl rfl
 | 5,_=>exact mat2 h (a := 19) (b := 20) rfl rfl rfl rfl rfl
end Go.Proofs.YtojdpjpldokjmaaGreatDoor
namespace Go.Proofs.YtojdpjpldokjmaaGreatDoor.Pl
theorem line1_take (t:List UInt8):t.take (line1 t).length = line1 t := by
 obtain ⟨r,h⟩ := lineGo_pre false t
 unfold line1
 generalize lineGo false t = l at *
 subst h
 simp
def loadO (t:List UInt8):Option DB := match loadR [] t with
 | none=>none
 | some db=>if save db = t then some db else none
theorem loadO_none {t:List UInt8} (h:loadR [] t = none):loadO t = none := by unfold loadO; rw [h]
theorem loadO_yes {t:List UInt8} {db:DB} (h:loadR [] t = some db) (hs:save db = t):loadO t = some db := by unfold loadO; rw [h]; simp only; rw [if_pos hs]
theorem loadO_no {t:List UInt8} {db:DB} (h:loadR [] t = some db) (hs:save db ≠ t):loadO t = none := by unfold loadO; rw [h]; simp only; rw [if_neg hs]
end Go.Proofs.YtojdpjpldokjmaaGreatDoor.Pl
namespace Go.Proofs.YtojdpjpldokjmaaGreatDoor
open Go.RowKit Go.Deep
set_option linter.unusedSimpArgs false
set_option linter.unusedVariables false
def PostLd (w:World) (o:Option Pl.DB) (e:Ending) (w':World):Prop := Below w.heap.size w w' /\
 ((o = none /\ e = .returned (.tuple #[.pointer none,.int .i64 7])) \/ ∃ D M lay,o = some D /\ e = .returned (.tuple #[.pointer (some ⟨w.heap.size,0,none⟩),.int .i64 0]) /\ Live w' M w.heap.size lay D /\ SvG w' M /\ ∀ k,M k -> w.heap.size <= k)
structure LdI (w W:World) (M:Nat -> Prop) (lay:List Lay) (s r:List UInt8) (D:Pl.DB):Prop where
 live:Live W M w.heap.size lay D
 stp:Stp (w.alloc dbO) (oneB w.heap.size) W M
 eq:Pl.loadR D r = Pl.loadR [] s
theorem LdI.bel {w W:World} {M:Nat -> Prop} {lay:List Lay} {s r:List UInt8} {D:Pl.DB} (h:LdI w W M lay s r D):Below w.heap.size w W /\ ∀ k,M k -> w.heap.size <= k := by
 have hb0:Below w.heap.size w (w.alloc dbO) := (Below.refl _ _).alloc (Nat.le_refl _) _
 refine ⟨stp_own hb0 (fun k hk=>Nat.le_of_eq (show k = w.heap.size from hk).symm) h.stp hb0.size,fun k hk=>?_⟩
 rcases h.stp.new k hk with h1 | h1
 · exact Nat.le_of_eq (show k = w.heap.size from h1).symm
 · simp at h1; omega
theorem toList_data (r:ByteArray):r.toList = r.data.toList := ByteArray.toList_eq r
theorem ext_all (r:ByteArray) (n:Nat) (h:n <= r.size):(r.extract 0 n).data.toList = r.data.toList.take n /\ (r.extract 0 n).size = n /\ (r.extract n r.size).data.toList = r.data.toList.drop n /\ (r.extract n r.size).size = r.size - n := by
 refine ⟨by rw [ext_list]; simp,by simp; omega,by rw [ext_list,List.take_of_length_le (by simp)],by simp⟩
theorem loadM (L:LexLib) (X:MachLib) (S:SaveLib) (s:ByteArray) (w:World) (hs:s.size <= 1048576) (hg:Globs w) (hsg:SaveG w) :
   Calls Tryz.prog 30 #[.string s] w (PostLd w (Pl.loadO s.data.toList)) := by
 have HLex := hide L
 have HMach := hide X
 have HSav := hide S
 have HL0 := hide (Live.new hg)
 have HV0 := hide (SvG.new hsg)
 have HNew := hide (newM w)
 have HSz := hide hs
 have HNo:Hid (∀ W M lay r D,LdI w W M lay s.data.toList r D -> ∀ W',Below w.heap.size w W' -> Pl.loadO s.data.toList = none -> PostLd w (Pl.loadO s.data.toList) (.returned (.tuple #[.pointer none,.int .i64 7])) W') := fun W M lay r D _ W' hb h=>⟨hb,.inl ⟨h,rfl⟩⟩
 clear hg hsg L X S
 go_enter Tryz.func30,Tryz.ntmps30
 go_wp2_with fail
 refine (unhide HNew).mono ?_
 rintro e w1 ⟨rfl,rfl⟩
 clear HNew
 go_wp2_with fail
 go_loopw [5] (fun s5 wr=>∃ (r:ByteArray) (D:Pl.DB) (M:Nat -> Prop) (lay:List Lay),s5 = .string r /\ r.size <= s.size /\ Hid (LdI w wr M lay s.data.toList r.data.toList D)) (fun a _=>match a with | .string r=>r.size | _=>0)
 case atStart=>exact ⟨s,[],_,_,rfl,Nat.le_refl _,HL0.out,Stp.refl _ _,rfl⟩
 case round =>
   obtain ⟨r,D,M,lay,rfl,hr,HI⟩ := hrel
   have HTl := hide (toList_data r)
   cases hem:r.toList.isEmpty with
   | false =>
     have HNe:Hid (r.data.toList ≠ []) := fun e=>by rw [HTl.out,e] at hem; cases hem
     have hrs:r.size <= 1048576 := Nat.le_trans hr HSz.out
     have hln:(Pl.line1 r.data.toList).length <= r.size := by rw [<- size_list]; exact Pl.line1_le _
     have HPos:Hid (0 < (Pl.line1 r.data.toList).length) := Pl.lineGo_pos HNe.out
     have HLn := hide (Pl.line1_take r.data.toList)
     have HStep := hide (Pl.loadR_step (db := D) HNe.out)
     have HC := hide (firstLineM r wr hrs)
     generalize (Pl.line1 r.data.toList).length = n at *
     obtain ⟨x1,x2,x3,x4⟩ := ext_all r n hln
     have HX1 := hide x1
     have HX3 := hide x3
     have HX4 := hide x4
     clear x1 x3 x4
     go_wp2_with fail
     refine (unhide HC).mono ?_
     rintro e w2 ⟨rfl,rfl⟩
     have HD := hide (doLineM HLex.out HMach.out (r.extract 0 n) w2 M w.heap.size lay D HI.out.live (by rw [x2]; omega))
     rw [HX1.out,HLn.out] at HD
     clear HC
     go_wp2_with fail
     refine (unhide HD).mono ?_
     rintro e w3 ⟨rfl,M3,hs3,hl3⟩
     clear HD
     cases hld:Pl.lineDo D (Pl.line1 r.data.toList) with
     | none =>
       have HE := hide (HNo.out _ _ _ _ _ HI.out w3 (by
         have hb := HI.out.bel
         exact stp_own hb.1 hb.2 hs3 hb.1.size) (Pl.loadO_none (by rw [<- HI.out.eq,HStep.out,hld])))
       clear hs3 hl3 hld HI HStep
       go_wp2_with fail
       exact bodyPost_ret (v := .tuple #[.pointer none,.int .i64 7]) (by simp [results,Tryz.results30,go_sem]) rfl HE.out
     | some D' =>
       obtain ⟨lay3,hlv⟩ := hl3 D' hld
       have HI3:Hid (LdI w w3 M3 lay3 s.data.toList (r.extract n r.size).data.toList D') := ⟨hlv,HI.out.stp.trans hs3,by
         rw [HX3.out,<- HI.out.eq,HStep.out,hld]⟩
       have hr3:(r.extract n r.size).size <= s.size := by rw [HX4.out]; omega
       have hm3:(r.extract n r.size).size < r.size := by rw [HX4.out]; have := HPos.out; omega
       clear hs3 hl3 hld HI HStep hlv
       go_wp2_with fail
       exact ⟨⟨_,D',M3,lay3,rfl,hr3,HI3.out⟩,hm3⟩
   | true =>
     have HNe:Hid (r.data.toList = []) := by rw [HTl.out] at hem; exact List.isEmpty_iff.1 hem
     have HC := hide (saveM HSav.out HI.out.live.ex.db (HV0.out.step HI.out.stp).g)
     go_wp2_with fail
     refine (unhide HC).mono ?_
     rintro e w2 ⟨rfl,hb2⟩
     have HEq:Hid (Pl.loadR [] s.data.toList = some D) := by
       have h := HI.out.eq
       rw [HNe.out,Pl.loadR_nil] at h
       exact h.symm
     have HB2:Hid (Below w.heap.size w w2) := HI.out.bel.1.trans (hb2.mono HI.out.bel.1.size)
     by_cases hsv:Pl.save D = s.data.toList
     · have HE:Hid (PostLd w (Pl.loadO s.data.toList) (.returned (.tuple #[.pointer (some ⟨w.heap.size,0,none⟩),.int .i64 0])) w2) := by
         have hstp:Stp (w.alloc dbO) (oneB w.heap.size) w2 M := HI.out.stp.trans (Stp.below M hb2)
         exact ⟨HB2.out,.inr ⟨D,M,lay,Pl.loadO_yes HEq.out hsv,rfl,HI.out.live.below hb2,HV0.out.step hstp,HI.out.bel.2⟩⟩
       generalize PostLd w (Pl.loadO s.data.toList) = Post at *
       clear hb2 HI HEq HC
       go_wp2_with fail
       exact HE.out
     · have hsv':(Pl.save D == s.toList) = false := by rw [toList_data]; simp [hsv]
       have HE := hide (HNo.out _ _ _ _ _ HI.out w2 HB2.out (Pl.loadO_no HEq.out hsv))
       generalize PostLd w (Pl.loadO s.data.toList) = Post at *
       clear hb2 HI HEq HC hsv
       go_wp2_with fail
       exact HE.out
theorem OutW.gotN {w w':World} {M M' N:Nat -> Prop} {rows:List (List Pl.V)} {rv:Value} (h:OutW w.heap.size w' M M' rows rv) (hN:∀ k,N k -> k < w.heap.size):Got w' N rows rv := by
 obtain ⟨qs,h1,h2,h3,h4⟩ := h
 exact ⟨qs,h1,own_base h2 (Nat.zero_le _),fun q hq=>own_base (h3.1 q hq) (Nat.zero_le _),fun k hk hn=>by have := (h2.lt k hk).1; have := hN k hn; omega,fun q hq k hk hn=>by have := ((h3.1 q hq).lt k hk).1; have := hN k hn; omega⟩
theorem execN (L:LexLib) (X:MachLib) {t:List UInt8} {w:World} {M:Nat -> Prop} {b:Nat} {lay:List Lay} {D D':Pl.DB} {ans:Pl.Ans} (h:Live w M b lay D) (ht:t.length <= 600) (hok:ExecOk D t) (ha:Pl.exec D t = (D',ans)) :
   Calls Tryz.prog 18 #[.pointer (some ⟨b,0,none⟩),.string ⟨t.toArray⟩] w fun e w' => ∃ rv M' lay',e = .returned (.tuple #[.agg #[rv,.int .i64 ans.count],.int .i64 (ans.err:Nat)]) /\ Stp w M w' M' /\ Live w' M' b lay' D' /\ Got w' M' ans.rows rv /\ ∀ N:Nat -> Prop,(∀ k,N k -> k < w.heap.size) -> Got w' N ans.rows rv := by
 refine (execM L X t w M b lay D h (by omega) hok).mono ?_
 intro e w' hp
 rw [ha] at hp
 obtain ⟨rv,M',lay',h1,h2,h3⟩ := hp
 exact ⟨rv,M',lay',h1,⟨h2.keep,h2.new⟩,h.step h2,h3.got h.ex.db.lt,fun N hN=>h3.gotN hN⟩
theorem rowsN (L:LexLib) (X:MachLib) {t:List UInt8} {w:World} {M:Nat -> Prop} {b:Nat} {lay:List Lay} {D D':Pl.DB} {ans:Pl.Ans} (h:Live w M b lay D) (ht:t.length <= 600) (hok:ExecOk D t) (ha:Pl.exec D t = (D',ans)) (h0:ans.err = 0) :
   Calls Tryz.prog 17 #[.pointer (some ⟨b,0,none⟩),.string ⟨t.toArray⟩] w fun e w' => ∃ rv M' lay',e = .returned (.tuple #[rv,.bool true]) /\ Stp w M w' M' /\ Live w' M' b lay' D' /\ Got w' M' ans.rows rv /\ ∀ N:Nat -> Prop,(∀ k,N k -> k < w.heap.size) -> Got w' N ans.rows rv := by
 have HC := hide (execN L X h ht hok ha)
 clear h ht hok ha
 go_enter Tryz.func17,Tryz.ntmps17
 go_wp2_with fail
 refine (unhide HC).mono ?_
 rintro e w1 ⟨rv,M',lay',rfl,hs,hl,hg,hn⟩
 obtain ⟨ra,rc,rfl⟩ := hg.slice
 rw [h0]
 have HS := hide hs
 have HL := hide hl
 have HG := hide hg
 have HGn := hide hn
 clear hs hl hg hn HC
 go_wp2_with fail
 refine bodyPost_ret (v := .tuple #[.slice ra ans.rows.length rc,.bool true]) (by simp [results,Tryz.results17,go_sem]) rfl ⟨_,M',lay',rfl,stp_box HS.out _,live_box HL.out _,got_box HG.out _,fun N hN=>got_box (HGn.out N hN) _⟩
theorem Live.other {w w':World} {M N N':Nat -> Prop} {b c:Nat} {lay laz:List Lay} {D X:Pl.DB} (h:Live w M b lay D) (hx:Live w N c laz X) (hs:Stp w N w' N') (hd:∀ k,M k -> ¬ N k):Live w' M b lay D :=
 ⟨⟨h.ex.db.keep hs.keep.size (fun k hm=>hs.keep.block k ⟨h.ex.db.lt k hm,hd k hm⟩),h.ex.rules.keep (hs.keep.block _ ⟨h.ex.glob.2,hx.ex.glob.1⟩),h.ex.glob.1,Nat.lt_of_lt_of_le h.ex.glob.2 hs.keep.size⟩,h.spell.same (hs.keep.block _ ⟨h.spell.lt,hx.gs⟩),h.err.same (hs.keep.block _ ⟨h.err.lt,hx.ge⟩),h.gs,h.ge,h.pow.keep (hs.keep.block _ ⟨h.pow.lt,hx.gp⟩),h.gp⟩
theorem SvG.other {w w':World} {M N N':Nat -> Prop} (h:SvG w M) (hx:SvG w N) (hs:Stp w N w' N'):SvG w' M :=
 ⟨h.g.keep (fun k hk=>hs.keep.block k ⟨h.g.lts k hk,hx.not k hk⟩),h.not⟩
theorem SvG.below {w w':World} {M:Nat -> Prop} (h:SvG w M) (hb:Below w.heap.size w w'):SvG w' M := h.step (Stp.below M hb)
structure Two (B:Nat) (w0 w:World) (M:Nat -> Prop) (b:Nat) (lay:List Lay) (D:Pl.DB) (N:Nat -> Prop) (c:Nat) (laz:List Lay) (X:Pl.DB):Prop where
 bel:Below B w0 w
 hB:B <= w.heap.size
 fst:Live w M b lay D
 snd:Live w N c laz X
 dis:∀ k,M k -> ¬ N k
 sv1:SvG w M
 sv2:SvG w N
 low1:∀ k,M k -> B <= k
 low2:∀ k,N k -> B <= k
theorem Two.below {B:Nat} {w0 w w':World} {M N:Nat -> Prop} {b c:Nat} {lay laz:List Lay} {D X:Pl.DB} (h:Two B w0 w M b lay D N c laz X) (hb:Below w.heap.size w w'):Two B w0 w' M b lay D N c laz X :=
 ⟨h.bel.trans (hb.mono h.hB),Nat.le_trans h.hB hb.size,h.fst.below hb,h.snd.below hb,h.dis,h.sv1.below hb,h.sv2.below hb,h.low1,h.low2⟩
theorem Two.one {B:Nat} {w0 w w':World} {M M' N:Nat -> Prop} {b c:Nat} {lay lay' laz:List Lay} {D D' X:Pl.DB} (h:Two B w0 w M b lay D N c laz X) (hs:Stp w M w' M') (hl:Live w' M' b lay' D'):Two B w0 w' M' b lay' D' N c laz X :=
 ⟨stp_own h.bel h.low1 hs h.hB,Nat.le_trans h.hB hs.keep.size,hl,h.snd.other h.fst hs (fun k hn hm=>h.dis k hm hn),fun k hm hn=>by
   rcases hs.new k hm with h1 | h1
   · exact h.dis k h1 hn
   · have := h.snd.ex.db.lt k hn; omega,h.sv1.step hs,h.sv2.other h.sv1 hs,fun k hm=>by
   rcases hs.new k hm with h1 | h1
   · exact h.low1 k h1
   · have := h.hB; omega,h.low2⟩
theorem Two.swap {B:Nat} {w0 w:World} {M N:Nat -> Prop} {b c:Nat} {lay laz:List Lay} {D X:Pl.DB} (h:Two B w0 w M b lay D N c laz X):Two B w0 w N c laz X M b lay D :=
 ⟨h.bel,h.hB,h.snd,h.fst,fun k hn hm=>h.dis k hm hn,h.sv2,h.sv1,h.low2,h.low1⟩
theorem Two.two {B:Nat} {w0 w w':World} {M N N':Nat -> Prop} {b c:Nat} {lay laz laz':List Lay} {D X X':Pl.DB} (h:Two B w0 w M b lay D N c laz X) (hs:Stp w N w' N') (hl:Live w' N' c laz' X'):Two B w0 w' M b lay D N' c laz' X' := (h.swap.one hs hl).swap
theorem Live.globs {w:World} {M:Nat -> Prop} {b:Nat} {lay:List Lay} {D:Pl.DB} (h:Live w M b lay D):Globs w := ⟨h.spell,h.err,h.ex.rules,h.ex.glob.2,h.pow⟩
theorem Two.load {B:Nat} {w0 w w':World} {M N:Nat -> Prop} {b:Nat} {lay laz:List Lay} {D X:Pl.DB} (hbel:Below B w0 w) (hB:B <= w.heap.size) (h:Live w M b lay D) (hsv:SvG w M) (hlow:∀ k,M k -> B <= k) (hb:Below w.heap.size w w') (hx:Live w' N w.heap.size laz X) (hsx:SvG w' N) (hN:∀ k,N k -> w.heap.size <= k):Two B w0 w' M b lay D N w.heap.size laz X :=
 ⟨hbel.trans (hb.mono hB),Nat.le_trans hB hb.size,h.below hb,hx,fun k hm hn=>by have := h.ex.db.lt k hm; have := hN k hn; omega,hsv.below hb,hsx,hlow,fun k hn=>by have := hN k hn; omega⟩
theorem loadO_saved {rt ru:List (List Pl.V)} (h:Pl.SvDb rt ru):Pl.loadO (Pl.save (Pl.bTab rt ru)) = some (Pl.bTab rt ru) := Pl.loadO_yes (Pl.load_saved h) rfl
theorem sv_ins (a b:List UInt8):(((({ data := #[73,78,83,69,82,84,32,73,78,84,79,32,116,32,86,65,76,85,69,83,32,40] }:ByteArray) ++ { data := a.toArray }) ++ { data := #[44,32] }) ++ { data := b.toArray }) ++ { data := #[44,32,70,65,76,83,69,41] } = ⟨([73,78,83,69,82,84,32,73,78,84,79,32,116,32,86,65,76,85,69,83,32,40] ++ a ++ [44,32] ++ b ++ [44,32,70,65,76,83,69,41]).toArray⟩ := by
 have h1 := cat3 [73,78,83,69,82,84,32,73,78,84,79,32,116,32,86,65,76,85,69,83,32,40] a [44,32]
 exact (congrArg (fun z:ByteArray=>(z ++ ⟨b.toArray⟩) ++ (⟨#[44,32,70,65,76,83,69,41]⟩:ByteArray)) h1).trans (cat3 _ b [44,32,70,65,76,83,69,41])
theorem SvG.based {w w1:World} {M:Nat -> Prop} (h:SaveG w) (hb:Below w.heap.size w w1) (hM:∀ k,M k -> w.heap.size <= k):SvG w1 M :=
 ⟨h.below hb,fun k hk hm=>by have := h.lts k hk; have := hM k hm; omega⟩
theorem svDb_put {raw:List Int} {n:Int} {l:List UInt8} (hn:Pl.in64 n) (hl:l.length <= 40):Pl.SvDb ((Pl.baseRows raw).1 ++ [Pl.sRow n l]) (Pl.baseRows raw).2 := by
 obtain ⟨h1,h2,_⟩ := Pl.base_len raw
 obtain ⟨h3,h4⟩ := Pl.base_rows_sv raw
 exact ⟨fun r hr=>by
   rcases List.mem_append.1 hr with hr | hr
   · exact h3 r hr
   · simp at hr; subst hr; exact Pl.sRow_sv hn hl,h4,by simp; omega,by omega⟩
theorem str_cut (s:ByteArray):(¬ 40 < s.size -> s = ⟨(s.data.toList.take 40).toArray⟩) /\ (40 < s.size -> s.extract 0 40 = ⟨(s.data.toList.take 40).toArray⟩) := by
 constructor
 · intro h
   rw [List.take_of_length_le (by rw [size_list]; omega)]
 · intro h
   have h1:(s.extract 0 40).data.toList = s.data.toList.take 40 := by rw [ext_list]; simp
   have h2:(s.extract 0 40).data = (s.data.toList.take 40).toArray := by rw [<- h1]
   exact congrArg ByteArray.mk h2
theorem savedK (L:LexLib) (X:MachLib) (S:SaveLib) (HS:StableM 19 600) (raw:List Int) (s:ByteArray) (n:Int) (v1:Value) (w:World) (h1:IntsAt w raw v1) (hr1:∀ x ∈ raw,Pl.in64 x) (hsz:s.size <= 9223372036854775807) (hn:Pl.in64 n) (hg:Globs w) (hsg:SaveG w) :
   Calls Tryz.prog 12 #[v1,.string s,.int .i64 n] w fun e w' => e = .returned (.bool true) /\ Below w.heap.size w w' := by
 have HSt := hide HS
 have HLex := hide L
 have HMach := hide X
 have HSav := hide S
 have HB := hide (baseM L X raw v1 w h1 hr1 hg)
 have HNum := hide (fun W=>numberM n W hn)
 have HLit := hide (fun W=>literalM s W hsz)
 have HSg := hide hsg
 have hl40:(s.data.toList.take 40).length <= 40 := by simp; omega
 have HSv := hide (svDb_put (raw := raw) hn hl40)
 have HEx := hide (fun rt ru (h:rt.length < 25)=>Pl.s_exec (rt := rt) (ru := ru) hn hl40 h)
 have HPs := hide (Pl.s_parse hn hl40)
 have hil := Pl.s_len hn hl40
 have hnp := Pl.numP_len26 hn
 have hql:(39 :: (Pl.quote (s.data.toList.take 40) ++ [39])).length <= 82 := by
   have := Pl.quote_len (s.data.toList.take 40)
   simp at hl40 this ⊢
   omega
 have HCutS := hide (str_cut s)
 unfold Pl.sIns at HEx HPs hil
 generalize 39 :: (Pl.quote (s.data.toList.take 40) ++ [39]) = xl at *
 generalize Pl.numP n = xn at *
 generalize s.data.toList.take 40 = l at *
 obtain ⟨hl8,hl7,hl1⟩ := Pl.base_len raw
 have HD:Hid (Pl.baseDb raw = Pl.bTab (Pl.baseRows raw).1 (Pl.baseRows raw).2) := rfl
 generalize Pl.baseDb raw = D at *
 generalize (Pl.baseRows raw).1 = rt at *
 generalize (Pl.baseRows raw).2 = ru at *
 obtain ⟨a1,c1,rfl,_⟩ := h1
 clear hg hr1 HS L X S hsg hn
 go_enter Tryz.func12,Tryz.ntmps12
 go_wp2_with fail
 refine (unhide HB).mono ?_
 rintro e w1 ⟨rfl,hb1,M1,lay1,hl1',hM1⟩
 rw [HD.out] at hl1'
 have HL1 := hide hl1'
 have HB1 := hide hb1
 have HM1 := hide hM1
 have HV1 := hide (SvG.based HSg.out hb1 hM1)
 generalize hbb:w.heap.size = bb at *
 have HBB := hide hbb
 clear hbb hl1' hM1 hb1 HB HD
 go_wp2_with fail
 refine ((unhide HNum) _).mono ?_
 rintro e w2 ⟨rfl,hb2⟩
 have HL2 := hide (HL1.out.below hb2)
 have HS2:Hid (Stp w1 M1 w2 M1) := Stp.below _ hb2
 clear hb2 HL1 HNum
 go_wp2_with fail
 refine ((unhide HLit) _).mono ?_
 rintro e w3 ⟨rfl,rfl⟩
 clear HLit
 have HC := hide (doesY HLex.out HMach.out HL2.out (t := [73,78,83,69,82,84,32,73,78,84,79,32,116,32,86,65,76,85,69,83,32,40] ++ xn ++ [44,32] ++ xl ++ [44,32,70,65,76,83,69,41]) (by omega) (execOk_kind (k := 105) (by rw [HPs.out]; rfl) (by decide) (by decide)) (HEx.out rt ru (by omega)) rfl)
 rw [<- sv_ins] at HC
 clear HEx HPs
 go_wp2_with fail
 refine (unhide HC).mono ?_
 rintro e w4 ⟨rfl,M4,lay4,hs4,hl4⟩
 have HS4 := hide (HS2.out.trans hs4)
 have HL4 := hide hl4
 have HV4 := hide (HV1.out.step (HS2.out.trans hs4))
 clear hs4 hl4 HC HS2 HL2
 have hrl:(rt ++ [Pl.sRow n l]).length <= 9 := by simp; omega
 have hrp:1 <= (rt ++ [Pl.sRow n l]).length := by simp
 have HLast:Hid ((rt ++ [Pl.sRow n l]).drop ((rt ++ [Pl.sRow n l]).length - 1) = [Pl.sRow n l]) := by
   unfold Hid
   simp
 generalize rt ++ [Pl.sRow n l] = r2 at *
 have HSm := hide (Pl.save_small HSv.out)
 have HLd := hide (loadO_saved HSv.out)
 have HX := hide (Pl.load_x HSv.out)
 have HCu := hide (Pl.load_cut (rt := r2) (ru := ru))
 have HLe := hide (Pl.save_len (rt := r2) (ru := ru) (by rintro rfl; simp at hrp))
 have HR3:Hid (∀ r ∈ r2,r.length = 3) := fun r hr=>(HSv.out.t r hr).len3
 have HC := hide (saveM HSav.out HL4.out.ex.db HV4.out.g)
 have HSaveD:Hid (Pl.save (Pl.bTab r2 ru) = Pl.save (Pl.bTab r2 ru)) := rfl
 generalize hsv:Pl.save (Pl.bTab r2 ru) = sv at *
 have HEq := hide hsv
 clear hsv HSaveD
 go_wp2_with fail
 refine (unhide HC).mono ?_
 rintro e w5 ⟨rfl,hb5⟩
 have HS5 := hide (HS4.out.trans (Stp.below _ hb5))
 have HL5 := hide (HL4.out.below hb5)
 have HV5 := hide (HV4.out.below hb5)
 have HBw5 := hide (stp_own HB1.out HM1.out HS5.out (by rw [<- HBB.out]; exact HB1.out.size))
 have hsvl:sv.length <= 100000 := HSm.out
 clear hb5 HC HS4 HL4 HV4 HSm
 have HC := hide (loadM HLex.out HMach.out HSav.out ⟨sv.toArray⟩ w5 (by show sv.toArray.size <= _; simp; omega) HL5.out.globs HV5.out.g)
 go_wp2_with fail
 refine (unhide HC).mono ?_
 rintro e w6 ⟨hb6,hp6⟩
 clear HC
 rcases hp6 with ⟨h0,_⟩ | ⟨X6,N6,laz6,h0,rfl,hlx,hsx,hN6⟩
 · exact absurd (h0.symm.trans HLd.out) (by simp)
 have hX6:X6 = Pl.bTab r2 ru := by
   have h0' := h0.symm.trans HLd.out
   exact Option.some.inj h0'
 subst hX6
 have HT6 := hide (Two.load HBw5.out (by have := HBw5.out.size; have := HBB.out; omega) HL5.out HV5.out (fun k hk=>by
   rcases HS5.out.new k hk with h | h
   · exact HM1.out k h
   · have := HB1.out.size; have := HBB.out; omega) hb6 hlx hsx hN6)
 generalize hcb:w5.heap.size = cb at *
 clear hcb hb6 h0 hlx hsx hN6 HS5 HL5 HV5 HBw5 HLd HB1 HM1 HV1
 have HC := hide (rowsN HLex.out HMach.out HT6.out.fst (t := Pl.xAll) (by decide) (ok_sel HSt.out (by omega) (by omega) Pl.k_all) (Pl.all3_exec (ru := ru) HR3.out) rfl)
 go_wp2_with fail
 refine (unhide HC).mono ?_
 rintro e w7 ⟨v7,M7,lay7,rfl,hs7,hl7x,hg7,hgn7⟩
 obtain ⟨a7,c7,rfl⟩ := hg7.slice
 have HT7 := hide (HT6.out.one hs7 hl7x)
 have HG7 := hide (hgn7 N6 (fun k hk=>HT6.out.snd.ex.db.lt k hk))
 clear hs7 hl7x hg7 hgn7 HC HT6
 have HC := hide (rowsN HLex.out HMach.out HT7.out.snd (t := Pl.xAll) (by decide) (ok_sel HSt.out (by omega) (by omega) Pl.k_all) (Pl.all3_exec (ru := ru) HR3.out) rfl)
 go_wp2_with fail
 refine (unhide HC).mono ?_
 rintro e w8 ⟨v8,N8,laz8,rfl,hs8,hl8x,hg8,hgn8⟩
 obtain ⟨a8,c8,rfl⟩ := hg8.slice
 have HT8 := hide (HT7.out.two hs8 hl8x)
 have HA8 := hide (HG7.out.step hs8).mato
 have HB8 := hide hg8.mato
 clear hs8 hl8x hg8 hgn8 HC HT7 HG7
 go_upto_if 70 with fail
 go_cut [1] (fun s1 wx=>s1 = .string ⟨l.toArray⟩ /\ wx = w8)
 case first =>
   by_cases h40:40 < s.size
   · have hx := HCutS.out.2 h40
     go_wp2_with fail
     go_meet
     exact ⟨rfl,rfl⟩
   · have hx := HCutS.out.1 h40
     have HX1 := hide hx
     clear hx
     go_wp2_with fail
     go_meet
     exact ⟨congrArg Value.string HX1.out,rfl⟩
 case rest =>
   obtain ⟨rfl,rfl⟩ := hcut
   have hll:l.length <= 40 := hl40
   have HC := hide (sameY r2 _ _ wc HA8.out HB8.out (by omega) (fun r hr=>by rw [HR3.out r hr]; omega))
   go_wp2_with fail
   refine (unhide HC).mono ?_
   rintro e w9 ⟨rfl,hb9⟩
   have HT9 := hide (HT8.out.below hb9)
   have HA9 := hide (HA8.out.below hb9)
   clear hb9 HC HT8 HA8 HB8
   have hz0:((r2.length:Int) == 0) = false := by simp; rintro rfl; simp at hrp
   go_upto_region 17 with fail
   obtain ⟨g,o,rfl,hcap⟩:∃ g o,a7 = some ⟨g,o,none⟩ /\ r2.length <= c7 := by
     obtain ⟨_,_,e,hc,h2⟩ := HA9.out
     cases e
     obtain ⟨g,o,e,_⟩ := h2 (by rintro rfl; simp at hrp)
     exact ⟨g,o,e,hc⟩
   obtain ⟨q,hq,HQ⟩:∃ q:Nat,(r2.length:Int) - 1 = (q:Nat) /\ Hid (r2.length = q + 1) := ⟨r2.length - 1,by omega,by unfold Hid; omega⟩
   have hqb:q <= 64 := by have := HQ.out; omega
   have hqw:IntKind.i64.wrap ((q:Nat):Int) = ((q:Nat):Int) := by rw [IntKind.wrap_i64]; omega
   have hqr:q <= r2.length := by have := HQ.out; omega
   have hqi:((q:Nat):Int) <= ((r2.length:Nat):Int) := by omega
   have hqc:¬ c7 = q := by have := HQ.out; omega
   have hba:Below w9.heap.size w9 (w9.alloc (.cells #[.int .i64 1,.int .i64 n,.string ⟨#[]⟩,.int .i64 2,.int .i64 0,.string ⟨l.toArray⟩,.int .i64 3,.int .i64 0,.string ⟨#[]⟩] 34)) := (Below.refl _ _).alloc (Nat.le_refl _) _
   have hbb' := hba.alloc hba.size (.cells #[.slice (some ⟨w9.heap.size,0,none⟩) 3 3] 32)
   have hx1 := blk_new w9 (.cells #[.int .i64 1,.int .i64 n,.string ⟨#[]⟩,.int .i64 2,.int .i64 0,.string ⟨l.toArray⟩,.int .i64 3,.int .i64 0,.string ⟨#[]⟩] 34)
   have hx2 := blk_new (w9.alloc (.cells #[.int .i64 1,.int .i64 n,.string ⟨#[]⟩,.int .i64 2,.int .i64 0,.string ⟨l.toArray⟩,.int .i64 3,.int .i64 0,.string ⟨#[]⟩] 34)) (.cells #[.slice (some ⟨w9.heap.size,0,none⟩) 3 3] 32)
   rw [show (w9.alloc (.cells #[.int .i64 1,.int .i64 n,.string ⟨#[]⟩,.int .i64 2,.int .i64 0,.string ⟨l.toArray⟩,.int .i64 3,.int .i64 0,.string ⟨#[]⟩] 34)).heap.size = w9.heap.size + 1 by simp] at hx2
   have hx1' := blk_alloc hx1 (.cells #[.slice (some ⟨w9.heap.size,0,none⟩) 3 3] 32)
   generalize (w9.alloc (.cells #[.int .i64 1,.int .i64 n,.string ⟨#[]⟩,.int .i64 2,.int .i64 0,.string ⟨l.toArray⟩,.int .i64 3,.int .i64 0,.string ⟨#[]⟩] 34)).alloc (.cells #[.slice (some ⟨w9.heap.size,0,none⟩) 3 3] 32) = w10 at *
   have HT10 := hide (HT9.out.below hbb')
   have HW:Hid (MatO w10 [Pl.sRow n l] (.slice (some ⟨w9.heap.size + 1,0,none⟩) 1 1)) := MatO.alone hx2 (row_new (r := Pl.sRow n l) hx1' rfl)
   have HA10 := hide (HA9.out.below hbb')
   have HSL:Hid (∀ (b c':Nat) (y:Option Addr),y = some ⟨g,o + q,none⟩ -> b = 1 -> 1 <= c' -> Calls Tryz.prog 25 #[.slice y b c',.slice (some ⟨w9.heap.size + 1,0,none⟩) 1 1] w10 fun e w' => e = .returned (.bool true) /\ Below w10.heap.size w10 w') := fun b c' y hy hb hc=>by
     subst hy
     subst hb
     refine sameY [Pl.sRow n l] _ _ w10 ?_ HW.out (by simp) (fun r hr=>by simp at hr; subst hr; simp [Pl.sRow])
     obtain ⟨_,_,e,hc2,h2⟩ := HA10.out
     obtain ⟨g',o',e3,hg3,h3⟩ := h2 (by rintro rfl; simp at hrp)
     cases e
     cases e3
     refine ⟨_,_,rfl,by simpa using hc,fun _=>⟨g,o + q,rfl,hg3,fun i r hr=>?_⟩⟩
     obtain rfl:i = 0 := by
       have := (List.getElem?_eq_some_iff.1 hr).1
       simpa using this
     simp at hr
     subst hr
     have h4:r2[q]? = some (Pl.sRow n l) := by
       have h5 := HLast.out
       rw [show r2.length - 1 = q by have := HQ.out; omega] at h5
       have h6 := congrArg (fun z=>z[0]?) h5
       simpa [List.getElem?_drop] using h6
     exact h3 q _ h4
   clear hx1 hx2 hx1' hba hbb' HA9 HA10 HW HT9 HLast
   go_wp2_with fail
   refine (HSL.out _ _ _ rfl (by have := HQ.out; omega) (by have := HQ.out; omega)).mono ?_
   rintro e w11 ⟨rfl,hb11⟩
   have HT11 := hide (HT10.out.below hb11)
   clear hb11 HT10 HSL
   have HC := hide (saveM HSav.out HT11.out.snd.ex.db HT11.out.sv2.g)
   rw [HEq.out] at HC
   go_wp2_with fail
   refine (unhide HC).mono ?_
   rintro e w12 ⟨rfl,hb12⟩
   have HT12 := hide (HT11.out.below hb12)
   clear hb12 HT11 HC
   have HC := hide (doesY HLex.out HMach.out HT12.out.snd (t := Pl.xClr) (by decide) (execOk_kind (k := 100) (by rw [Pl.p_clr]; rfl) (by decide) (by decide)) (Pl.clr_exec (rt := r2) (ru := ru)) rfl)
   go_wp2_with fail
   refine (unhide HC).mono ?_
   rintro e w13 ⟨rfl,N13,laz13,hs13,hl13⟩
   have HT13 := hide (HT12.out.two hs13 hl13)
   clear hs13 hl13 HT12 HC
   have HC := hide (saveM HSav.out HT13.out.snd.ex.db HT13.out.sv2.g)
   have hle := HLe.out
   generalize Pl.save (Pl.bTab [] ru) = so at *
   go_wp2_with fail
   refine (unhide HC).mono ?_
   rintro e w14 ⟨rfl,hb14⟩
   have HT14 := hide (HT13.out.below hb14)
   clear hb14 HT13 HC HLe
   have HC := hide (saveM HSav.out HT14.out.fst.ex.db HT14.out.sv1.g)
   rw [HEq.out] at HC
   go_wp2_with fail
   refine (unhide HC).mono ?_
   rintro e w15 ⟨rfl,hb15⟩
   have HT15 := hide (HT14.out.below hb15)
   clear hb15 HT14 HC
   have HC:Hid (Calls Tryz.prog 30 #[.string ((⟨sv.toArray⟩:ByteArray) ++ ⟨#[120]⟩)] w15 fun e w' => e = .returned (.tuple #[.pointer none,.int .i64 7]) /\ Below w15.heap.size w15 w') := by
     have e120:(⟨sv.toArray⟩:ByteArray) ++ ⟨#[120]⟩ = ⟨(sv ++ [120]).toArray⟩ := cat2' sv [120]
     rw [e120]
     have hl:(⟨(sv ++ [120]).toArray⟩:ByteArray).data.toList = sv ++ [120] := by simp
     have hz:(⟨(sv ++ [120]).toArray⟩:ByteArray).size <= 1048576 := by rw [<- size_list,hl]; simp; omega
     have hno := Pl.loadO_none HX.out
     rw [<- hl] at hno
     generalize (⟨(sv ++ [120]).toArray⟩:ByteArray) = sx at *
     refine (loadM HLex.out HMach.out HSav.out sx w15 hz HT15.out.fst.globs HT15.out.sv1.g).mono ?_
     rintro e w' ⟨hb,h⟩
     rcases h with h | ⟨X,N,lz,h,_⟩
     · exact ⟨h.2,hb⟩
     · rw [hno] at h; cases h
   go_wp2_with fail
   refine (unhide HC).mono ?_
   rintro e w16 ⟨rfl,hb16⟩
   have HT16 := hide (HT15.out.below hb16)
   clear hb16 HT15 HC HX
   have HC:Hid (Calls Tryz.prog 30 #[.string ((⟨sv.toArray⟩:ByteArray).extract 1 sv.length)] w16 fun e w' => e = .returned (.tuple #[.pointer none,.int .i64 7]) /\ Below w16.heap.size w16 w') := by
     have hl:((⟨sv.toArray⟩:ByteArray).extract 1 sv.length).data.toList = sv.drop 1 := by rw [ext_list]; simp
     have hz:((⟨sv.toArray⟩:ByteArray).extract 1 sv.length).size <= 1048576 := by rw [<- size_list,hl]; simp; omega
     have hno := Pl.loadO_none HCu.out
     rw [<- hl] at hno
     generalize (⟨sv.toArray⟩:ByteArray).extract 1 sv.length = sx at *
     refine (loadM HLex.out HMach.out HSav.out sx w16 hz HT16.out.fst.globs HT16.out.sv1.g).mono ?_
     rintro e w' ⟨hb,h⟩
     rcases h with h | ⟨X,N,lz,h,_⟩
     · exact ⟨h.2,hb⟩
     · rw [hno] at h; cases h
   have hsp:1 <= sv.length := by omega
   go_wp2_with fail
   refine (unhide HC).mono ?_
   rintro e w17 ⟨rfl,hb17⟩
   have HE := hide (HT16.out.below hb17).bel
   have hlei:((so.length:Nat):Int) < ((sv.length:Nat):Int) := by omega
   clear hb17 HT16 HC HCu
   go_wp2_with fail
   go_ret
   exact ⟨rfl,by rw [HBB.out]; exact HE.out⟩
end Go.Proofs.YtojdpjpldokjmaaGreatDoor
