/- The code's compileSettings: its walk. -/
import Derived.Test.YtojdpjpldokjmaaGreatDoorW29
import Derived.Test.YtojdpjpldokjmaaGreatDoorW31
set_option maxHeartbeats 16000000
set_option maxRecDepth 100000
namespace Go.Proofs.YtojdpjpldokjmaaGreatDoor
open Go.RowKit Go.Deep
set_option linter.unusedSimpArgs false
set_option linter.unusedVariables false
theorem Tryz.infoSg:(Tryz.prog.info? 275).map (fun i=>(i.zero,i.size,i.bytes)) = some (some (.agg #[.int .i64 0,.slice none 0 0]),2,32) := by kernel_rfl
theorem ent_compAs (vs:Array Value) (w:World):(callFunc 161 vs).run Tryz.prog w = .ok (.enter 161 vs) w := by
 have h1:(Tryz.f161.name == "runtime.NumGoroutine") = false := by kernel_rfl
 have h2 : Tryz.f161.body.isNone = false := by kernel_rfl
 have h1':¬ Tryz.f161.name = "runtime.NumGoroutine" := by simpa using h1
 have h2':¬ Tryz.f161.body = none := by intro e; rw [e] at h2; cases h2
 simp [callFunc,go_sem,Tryz.func161,h1',h2']
theorem RowsW.se {w:World} {hi:Nat} {ps:List (Pl.It × Value)} {v:Value} (h:RowsW w hi 2 seC ps v) {i:Nat} {p:Pl.It × Value} (hp:ps[i]? = some p):∃ g cap,v = .slice (some ⟨g,0,none⟩) ps.length cap /\ g < hi /\
   w.cell? ⟨g,i * 2,none⟩ = some (.string ⟨p.1.name.toArray⟩) /\ w.cell? ⟨g,i * 2 + 1,none⟩ = some p.2 := by
 obtain ⟨a,cap,rfl,h2⟩ := h
 obtain ⟨g,rfl,hg,h3⟩ := h2 (by rintro rfl; simp at hp)
 exact ⟨g,cap,rfl,hg,h3 i p hp 0 _ rfl,h3 i p hp 1 _ rfl⟩
def CompR (cols:List Pl.Col) (t:Pl.T) (want:Int) (K:Nat) (wx:World) (p:Option Addr) (n c er:Nat):Prop := Pl.tcAs cols t want = some er \/ (er = 0 /\ Pl.tcAs cols t want = none /\ ProgP wx (newP K wx.heap.size) cols t (.slice p n c))
def PostCA (W:World) (cols:List Pl.Col) (t:Pl.T) (want:Int) (v:Value) (w':World):Prop := ∃ (p:Option Addr) (n c er:Nat),v = .tuple #[.agg #[.slice p n c],.int .i64 (er:Nat)] /\ Below W.heap.size W w' /\ CompR cols t want W.heap.size w' p n c er
theorem as_ret {W:World} {f:Nat} {args:Array Value} {t:Pl.T} {cols:List Pl.Col} {want:Int} (h:Calls Tryz.prog f args W (PostCompAs W t cols want)):Calls Tryz.prog f args W fun e w' => ∃ v,e = .returned v /\ PostCA W cols t want v w' := by
 refine h.mono ?_
 rintro e w' ⟨hb,⟨er,h1,rfl⟩ | ⟨cv,h1,rfl,h2⟩⟩
 · exact ⟨_,rfl,_,_,_,er,rfl,hb,.inl h1⟩
 · obtain ⟨p,n,c,rfl⟩ := h2.slice
   exact ⟨_,rfl,p,n,c,0,rfl,hb,.inr ⟨rfl,h1,h2⟩⟩
structure Cut9 (W wx:World) (xb:Nat) (cols:List Pl.Col) (t:Pl.T) (want:Int) (p:Option Addr) (n c er:Nat):Prop where
 bel:Below W.heap.size W wx
 blk:wx.heap[xb]? = some (.cells #[.slice p n c] 204)
 ans:CompR cols t want W.heap.size wx p n c er
theorem cut_late {W w4:World} {cols:List Pl.Col} {t:Pl.T} {want:Int} {p:Option Addr} {n c er:Nat} (hb:Below W.heap.size W.drew w4) (hp:CompR cols t want W.drew.heap.size w4 p n c er):Cut9 W (w4.alloc (.cells #[.slice p n c] 204)) w4.heap.size cols t want p n c er :=
 ⟨((Below.refl W.heap.size W).drew.trans hb).alloc (by have := hb.size; exact this) _,blk_new _ _,hp.imp id (fun ⟨h1,h2,h3⟩=>⟨h1,h2,(RowsP.keep h3 (fun k hk=>Below.heap_alloc _ _ _ hk.2)).mono (fun k hk=>⟨hk.1,by have := hk.2; simp; omega⟩)⟩)⟩
theorem cut_early {W w4:World} {cols:List Pl.Col} {t:Pl.T} {want:Int} {p:Option Addr} {n c er:Nat} (hb:Below (W.heap.size + 1) (W.alloc (.cells #[.slice none 0 0] 204)).drew w4) (hx:w4.heap[W.heap.size]? = some (.cells #[.slice none 0 0] 204)) (hp:CompR cols t want (W.heap.size + 1) w4 p n c er):Cut9 W (w4.setCell ⟨W.heap.size,0,none⟩ (.slice p n c)) W.heap.size cols t want p n c er :=
 ⟨(((Below.refl W.heap.size W).alloc (Nat.le_refl _) _).drew.trans (hb.mono (by omega))).setCell (Nat.le_refl _) _,by simpa using blk_set hx 0 (.slice p n c),hp.imp id (fun ⟨h1,h2,h3⟩=>⟨h1,h2,(RowsP.keep h3 (fun k hk=>Below.heap_setCell _ _ _ _ (show k ≠ W.heap.size by have := hk.1; omega))).mono (fun k hk=>⟨by have := hk.1; omega,by rw [size_set]; exact hk.2⟩)⟩)⟩
structure SetJ (w1 wr:World) (t:Pl.Tab) (ps:List (Pl.It × Value)) (i:Nat) (sv:Value) (sgs:List Sg):Prop where
 set:SetI w1 wr (Pl.scope t.name t) sv sgs
 go:Pl.setsGo t [] (ps.map (·.1)) = Pl.setsGo t (places sgs) ((ps.drop i).map (·.1))
 trees:sgs.map (fun s=>s.2.1) = ((ps.take i).map (·.1)).map (·.tree)
 len:sgs.length = i
theorem SetI.weak {w w1 wr:World} {cols:List Pl.Col} {sv:Value} {sgs:List Sg} (h:SetI w1 wr cols sv sgs) (hb:Below w.heap.size w w1):SetI w wr cols sv sgs :=
 ⟨hb.trans (h.bel.mono hb.size),own_base h.own hb.size,h.progs⟩
theorem SetI.rows {w1 wr:World} {cols:List Pl.Col} {sv:Value} {sgs:List Sg} (h:SetI w1 wr cols sv sgs):RowsW wr wr.heap.size 2 sgC sgs sv := own_rows (f := sgC) (fun _=>rfl) h.own (Nat.le_refl _)
theorem SetI.slices {w1 wr:World} {cols:List Pl.Col} {sv:Value} {sgs:List Sg} (h:SetI w1 wr cols sv sgs):∀ s ∈ sgs,∃ a m c,s.2.2 = .slice a m c := fun s hs=>(h.progs s hs).slice
theorem colIdx_lt {t:Pl.Tab} {x:List UInt8} {k:Nat} (h:Pl.colIdx t x = some k):k < t.cols.length := by
 unfold Pl.colIdx at h
 exact (List.findIdx?_eq_some_iff_getElem.1 h).1
theorem compileSettingsM (t:Pl.Tab) (ps:List (Pl.It × Value)) (n:Nat) (uv cv:Value) (w:World) (hn:n < w.heap.size) (hc0:w.cell? ⟨n,0,none⟩ = some (.string ⟨t.name.toArray⟩)) (hc1:w.cell? ⟨n,1,none⟩ = some cv) (hcv:RowsW w w.heap.size 2 tcC t.cols cv) (hl:t.cols.length <= 1000) (hr:RulesAt w) (hg : 9 < w.heap.size) (hs:SetsW w w.heap.size ps uv) (hok:∀ p ∈ ps,Pl.okT p.1.tree) (hpl:ps.length <= 1000) :
   Calls Tryz.prog 108 #[.pointer (some ⟨n,0,none⟩),uv] w (PostSets w t (ps.map (·.1))) := by
 obtain ⟨ua,uc,rfl⟩ := hs.1.slice
 obtain ⟨ca,cc,rfl⟩ := hcv.slice
 obtain ⟨i0,hi,hi0,hi1,hi2⟩ := info_parts Tryz.infoSg
 have HSc := hide (scopeM t.name t.cols n _ w hn hc1 hcv hl)
 have HCv := hide hcv
 have HSs := hide hs
 have HR := hide hr
 have HGl := hide hg
 have HOk := hide hok
 have HNo:Hid (∀ (er:Nat) w',Pl.setsGo t [] (ps.map (·.1)) = .error er -> (er = 2 \/ er = 3) -> Below w.heap.size w w' -> PostSets w t (ps.map (·.1)) (.returned (.tuple #[.slice none 0 0,.int .i64 (er:Nat)])) w') := fun er w' h1 h2 h3=>⟨h3,.inl ⟨er,h1,h2,rfl⟩⟩
 have HYes:Hid (∀ sgs v w',Pl.setsGo t [] (ps.map (·.1)) = .ok (places sgs) -> sgs.map (fun s=>s.2.1) = (ps.map (·.1)).map (·.tree) -> SetI w w' (Pl.scope t.name t) v sgs -> PostSets w t (ps.map (·.1)) (.returned (.tuple #[v,.int .i64 0])) w') := fun sgs v w' h1 h2 h3=>⟨h3.bel,.inr ⟨sgs,v,h1,h2,rfl,h3⟩⟩
 generalize PostSets w t (ps.map (·.1)) = Post at *
 clear hcv hs hr hg hok
 go_enter Tryz.func108,Tryz.ntmps108
 go_wp2_with fail
 refine (unhide HSc).mono ?_
 rintro e w1 ⟨hb1,cv1,rfl,hown1⟩
 obtain ⟨va,vn,vc,rfl⟩ := own_slice hown1
 have HCol:Hid (RowsW w1 w1.heap.size 3 colC (Pl.scope t.name t) (.slice va vn vc)) := by
   unfold Hid
   rw [scope_map]
   exact own_rows (f := colC) (fun _=>rfl) hown1 (Nat.le_refl _)
 have HB1 := hide hb1
 have hz1 := hb1.size
 have HJ0:Hid (SetJ w1 w1 t ps 0 (.slice none 0 0) []) := ⟨⟨Below.refl _ _,World.ownsRow_nil _ _ _ _,fun s hs=>by simp at hs⟩,rfl,rfl,rfl⟩
 clear hb1 hown1 HSc
 go_wp2_with fail
 go_loopw [7,21] (fun s7 s21 wr=>∃ (i:Nat) (sgs:List Sg),i <= ps.length /\ s21 = .int .i64 (i:Nat) /\ Hid (SetJ w1 wr t ps i s7 sgs)) (fun _ a _=>ps.length - (intOf a).toNat)
 case atStart=>exact ⟨0,[],Nat.zero_le _,rfl,HJ0.out⟩
 case round =>
   obtain ⟨i,sgs,hi',rfl,HJ⟩ := hrel
   have hbJ := HJ.out.set.bel
   obtain ⟨sa,sn,sc,rfl⟩ := own_slice HJ.out.set.own
   have hbW:Below w.heap.size w wr := HB1.out.trans (hbJ.mono hz1)
   by_cases hlt:i < ps.length
   · have hpi:ps[i]? = some ps[i] := List.getElem?_eq_getElem hlt
     have hmem := List.getElem_mem hlt
     have HDr:Hid ((ps.drop i).map (·.1) = ps[i].1 :: (ps.drop (i + 1)).map (·.1)) := by unfold Hid; rw [List.drop_eq_getElem_cons hlt]; rfl
     have HTk:Hid (((ps.take (i + 1)).map (·.1)).map (·.tree) = ((ps.take i).map (·.1)).map (·.tree) ++ [ps[i].1.tree]) := by unfold Hid; rw [List.take_add_one,hpi]; simp only [Option.toList_some,List.map_append,List.map_cons,List.map_nil]
     generalize ps[i] = p at *
     obtain ⟨it,pv⟩ := p
     obtain ⟨pa,rfl⟩ := (HSs.out.2 _ hmem).ptr
     obtain ⟨g,cap,he,hgz,e0,e1⟩ := (HSs.out.1.keep (fun k hk=>hbW.block k hk)).se hpi
     cases he
     simp only at e0 e1
     have hgz':g < wr.heap.size := Nat.lt_of_lt_of_le hgz hbW.size
     have hnz:n < wr.heap.size := Nat.lt_of_lt_of_le hn hbW.size
     have d0 := (World.cell?_of_block (hbW.block n hn)).trans hc1
     generalize hWb:wr.alloc (.cells #[.string ⟨it.name.toArray⟩,.pointer pa] 259) = Wb at *
     have hbb:Below wr.heap.size wr Wb := by rw [<- hWb]; exact (Below.refl _ _).alloc (Nat.le_refl _) _
     have hbx:Wb.heap[wr.heap.size]? = some (.cells #[.string ⟨it.name.toArray⟩,.pointer pa] 259) := by rw [<- hWb]; exact blk_new _ _
     have hbWb:Below w.heap.size w Wb := hbW.trans (hbb.mono hbW.size)
     have HPl := hide (placeM t it.name n (.slice ca t.cols.length cc) Wb (Nat.lt_of_lt_of_le hn hbWb.size) ((World.cell?_of_block (hbWb.block n hn)).trans hc1) ((HCv.out.keep (fun k hk=>hbWb.block k hk)).more hbWb.size) hl)
     subst hWb
     have HBx := hide hbx
     have HBb := hide hbb
     have HMem := hide hmem
     have HBW := hide hbWb
     clear hbb hbx hmem hpi hbW hbJ hbWb
     go_wp2_with fail
     refine (unhide HPl).mono ?_
     rintro e w2 ⟨rfl,hb2⟩
     have hz2' := hb2.size
     simp only [World.alloc,Array.size_push] at hz2'
     have HB2:Hid (Below wr.heap.size wr w2) := HBb.out.trans (hb2.mono HBb.out.size)
     have HBx2:Hid (w2.heap[wr.heap.size]? = some (.cells #[.string ⟨it.name.toArray⟩,.pointer pa] 259)) := (hb2.block _ (lt_of_blk HBx.out)).trans HBx.out
     clear hb2 HPl HBb HBx
     cases hix:Pl.colIdx t it.name with
     | none =>
       have HE := hide (HNo.out 2 (w2.alloc (.cells #[.int .i64 (-1)] 3)) (by rw [HJ.out.go,HDr.out]; exact Pl.setsGo_none hix) (.inl rfl) (((HB1.out.trans (HJ.out.set.bel.mono hz1)).trans (HB2.out.mono (Nat.le_trans hz1 HJ.out.set.bel.size))).alloc (by have := HJ.out.set.bel.size; omega) _))
       simp only [fI]
       clear hix
       go_wp2_with fail
       exact HE.out
     | some k =>
       simp only [fI]
       have hkl:k < t.cols.length := colIdx_lt hix
       have hb3:Below w2.heap.size w2 (w2.alloc (.cells #[.int .i64 (k:Nat)] 3)) := (Below.refl _ _).alloc (Nat.le_refl _) _
       have hz3:w2.heap.size < (w2.alloc (.cells #[.int .i64 (k:Nat)] 3)).heap.size := by simp
       have hx3:(w2.alloc (.cells #[.int .i64 (k:Nat)] 3)).heap[w2.heap.size]? = some (.cells #[.int .i64 (k:Nat)] 3) := blk_new _ _
       have hs3 := (HJ.out.set.below HB2.out).below hb3
       have HCt := hide (sgContainsM sgs k _ w2.heap.size _ hs3.rows hs3.slices (by rw [HJ.out.len]; omega) hx3)
       have HX3 := hide hx3
       have HS3 := hide hs3
       have HBx3:Hid ((w2.alloc (.cells #[.int .i64 (k:Nat)] 3)).heap[wr.heap.size]? = some (.cells #[.string ⟨it.name.toArray⟩,.pointer pa] 259)) := (hb3.block _ (lt_of_blk HBx2.out)).trans HBx2.out
       have HIx := hide hix
       clear hb3 hx3 hs3 hix HBx2
       unfold sgFn at HCt
       cases hct:(places sgs).contains k with
       | true =>
         rw [hct] at HCt
         have HCn := hide hct
         clear hct
         go_wp2_with fail
         refine (unhide HCt).mono ?_
         rintro e w4 ⟨rfl,hb4⟩
         have hs4 := HS3.out.below hb4
         have HE := hide (HNo.out 2 w4 (by rw [HJ.out.go,HDr.out]; exact Pl.setsGo_twice HIx.out HCn.out) (.inl rfl) (HB1.out.trans (hs4.bel.mono hz1)))
         clear hb4 hs4 HCt
         go_wp2_with fail
         exact HE.out
       | false =>
         rw [hct] at HCt
         have HCn := hide hct
         clear hct
         go_wp2_with fail
         refine (unhide HCt).mono ?_
         rintro e w4 ⟨rfl,hb4⟩
         have hs4 := HS3.out.below hb4
         have hbW4:Below w.heap.size w w4 := HB1.out.trans (hs4.bel.mono hz1)
         have hx4:w4.heap[w2.heap.size]? = some (.cells #[.int .i64 (k:Nat)] 3) := (hb4.block _ (by simp)).trans HX3.out
         have hy4:w4.heap[wr.heap.size]? = some (.cells #[.string ⟨it.name.toArray⟩,.pointer pa] 259) := (hb4.block _ (lt_of_blk HBx3.out)).trans HBx3.out
         have x0 := blk_cell hx4 0
         have y0 := blk_cell hy4 0
         have y1 := blk_cell hy4 1
         simp at x0 y0 y1
         have xz := lt_of_blk hx4
         have yz := lt_of_blk hy4
         have t1 := (World.cell?_of_block (hbW4.block n hn)).trans hc1
         have tz:n < w4.heap.size := Nat.lt_of_lt_of_le hn hbW4.size
         obtain ⟨g2,cap2,he2,hg2,q0,q1⟩ := (HCv.out.keep (fun k hk=>hbW4.block k hk)).tc (List.getElem?_eq_getElem hkl)
         cases he2
         have hg2z:g2 < w4.heap.size := Nat.lt_of_lt_of_le hg2 hbW4.size
         have hki:(k:Int) < (t.cols.length:Nat) := by omega
         have HTy:Hid ((t.cols.getD k ([],0)).2 = t.cols[k].2) := by unfold Hid; rw [List.getD_eq_getElem?_getD,List.getElem?_eq_getElem hkl]; rfl
         generalize t.cols[k].2 = ty at *
         have hcol:∀ W,Below w1.heap.size w1 W -> CompIn W it.tree (.pointer pa) (Pl.scope t.name t) (.slice va vn vc) := fun W hW=>by
           have hWw := HB1.out.trans (hW.mono hz1)
           exact ⟨HR.out.keep (hWw.block _ HGl.out),Nat.lt_of_lt_of_le HGl.out hWw.size,((HSs.out.2 _ HMem.out).keep (fun k hk=>hWw.block k hk)).more hWw.size,HOk.out _ HMem.out,(HCol.out.keep (fun k hk=>hW.block k hk)).more hW.size,by unfold Pl.scope; rw [List.length_map]; exact hl⟩
         have HAs:Hid (∀ W,Below w1.heap.size w1 W -> _) := fun W hW=>as_ret (compileAsM it.tree (Pl.scope t.name t) ty (.pointer pa) (.slice va vn vc) W (hcol W hW))
         have HBd:Hid (Below w1.heap.size w1 w4.drew) := hs4.bel.drew
         have HBe:Hid (Below w1.heap.size w1 (w4.alloc (.cells #[.slice none 0 0] 204)).drew) := (hs4.bel.alloc hs4.bel.size _).drew
         have HXe:Hid ((w4.alloc (.cells #[.slice none 0 0] 204)).drew.heap[w4.heap.size]? = some (.cells #[.slice none 0 0] 204)) := blk_new w4 _
         have HS4 := hide hs4
         have HX4 := hide hx4
         clear hb4 hs4 hx4 hy4 HCt HX3 HS3 HBx3 hcol hbW4
         go_upto_region 9 with fail
         go_cut [11,12] from 22 to 60 (fun s11 s12 wx=>∃ (xb:Nat) (p4:Option Addr) (n4 c4 er4:Nat),s11 = .pointer (some ⟨xb,0,none⟩) /\ s12 = .int .i64 (er4:Nat) /\ Hid (Cut9 w4 wx xb (Pl.scope t.name t) it.tree ty p4 n4 c4 er4))
         case first =>
           go_region_law (first
             | (refine step_call3 rfl 161 (.tmp 38) (.tmp 39) (.tmp 47) _ rfl (.pointer pa) (.slice va vn vc) (.int .i64 ty) (ent_compAs _ _) (by simp [Act.eval,Act.put]) (by simp [Act.eval,Act.put]) (by simp [Act.eval,Act.put]) _ ((unhide HAs) _ HBd.out) ?_
                rintro v5 w5 ⟨p5,n5,c5,er5,rfl,hb5,hp5⟩
                have HL5 := hide (And.intro hb5 hp5)
                clear hb5 hp5)
             | (refine step_call3 rfl 161 (.tmp 38) (.tmp 39) (.tmp 47) _ rfl (.pointer pa) (.slice va vn vc) (.int .i64 ty) (ent_compAs _ _) (by simp [Act.eval,Act.put]) (by simp [Act.eval,Act.put]) (by simp [Act.eval,Act.put]) _ ((unhide HAs) _ HBe.out) ?_
                rintro v5 w5 ⟨p5,n5,c5,er5,rfl,hb5,hp5⟩
                have hx5 := (hb5.block _ (by simp [World.drew])).trans HXe.out
                have r0 := blk_cell hx5 0
                have rf := blk_frozen hx5 0
                simp at r0
                have rz := lt_of_blk hx5
                have HX5 := hide hx5
                have HE5 := hide (And.intro hb5 hp5)
                clear hb5 hp5 hx5))
           all_goals go_wp2_with fail
           all_goals go_meet
           all_goals first
             | exact ⟨_,_,_,_,_,rfl,rfl,cut_late HL5.out.1 HL5.out.2⟩
             | exact ⟨_,_,_,_,_,rfl,rfl,cut_early (by simpa [World.drew] using HE5.out.1) HX5.out (by simpa [World.drew] using HE5.out.2)⟩
         case rest =>
           obtain ⟨xb,p4,n4,c4,er4,rfl,rfl,HCut⟩ := hcut
           have hs9 := HS4.out.below HCut.out.bel
           have hx9:wc.heap[w2.heap.size]? = some (.cells #[.int .i64 (k:Nat)] 3) := (HCut.out.bel.block _ (lt_of_blk HX4.out)).trans HX4.out
           have z0 := blk_cell hx9 0
           have p0 := blk_cell HCut.out.blk 0
           simp at z0 p0
           have zz := lt_of_blk hx9
           have pz := lt_of_blk HCut.out.blk
           have HBW9:Hid (Below w.heap.size w wc) := HB1.out.trans (hs9.bel.mono hz1)
           clear hx9 HAs HBd HBe HXe x0 y0 y1 xz yz t1 tz q0 q1
           rcases HCut.out.ans with her | ⟨rfl,htc,hprog⟩
           · have hne:((er4:Int) != 0) = true := by have := tcAs_err her; simp; omega
             have HE := hide (HNo.out er4 wc (by rw [HJ.out.go,HDr.out]; exact Pl.setsGo_err HIx.out HCn.out (by rw [HTy.out]; exact her)) (tcAs_err her) HBW9.out)
             clear her hs9
             go_wp2_with fail
             exact HE.out
           · have HPr := hide hprog
             have HTc := hide htc
             have HS9 := hide hs9
             have hown9 := hs9.own
             have HLen := hide HJ.out.len
             have hz9:w1.heap.size <= wc.heap.size := hs9.bel.size
             clear hprog htc hs9
             go_wp2_with (at_builtin; refine wpList_append_own_at _ rfl (.tmp 54) (.tmp 58) 214 rfl w1.heap.size 275 i0 _ 2 32 Tryz.underlying214 hi hi0 hi1 hi2 rfl (by decide) _ _ _ rfl (hown9.alloc _) ⟨wc.heap.size,0,none⟩ 1 1 (sgC (k,it.tree,.slice p4 n4 c4)) rfl rfl ?c1 ?c2 ?c3 ?c4 ?c5 ?_)
             case c1=>exact news_at wc (sgC (k,it.tree,.slice p4 n4 c4)) 275
             case c2=>intro x hx; simp [sgC] at hx; rcases hx with rfl | rfl <;> rfl
             case c3=>have := HLen.out; unfold maxLen; omega
             case c4=>have := HLen.out; omega
             case c5=>simp; omega
             intro v' w6 hown6 hg6 hnil ho6
             have hsA := HS9.out.below ((Below.refl wc.heap.size wc).alloc (Nat.le_refl _) (.cells (sgC (k,it.tree,.slice p4 n4 c4)).toArray 275))
             have HJ6:Hid (SetJ w1 w6 t ps (i + 1) v' (sgs ++ [(k,it.tree,.slice p4 n4 c4)])) := by
               refine ⟨hsA.push (k := k) (t := it.tree) (u := .slice p4 n4 c4) ?_ (by simpa using hown6) hg6 (by simpa using ho6),?_,?_,?_⟩
               · refine (RowsP.keep HPr.out (fun k hk=>Below.heap_alloc _ _ _ hk.2)).mono (fun k hk=>⟨by have := hk.2; simp; omega,fun e=>?_⟩)
                 have := (HS4.out.own.lt k e).2
                 have := hk.1
                 omega
               · rw [HJ.out.go,HDr.out,Pl.setsGo_step HIx.out HCn.out (by rw [HTy.out]; exact HTc.out)]
                 simp [places]
               · rw [List.map_append,HJ.out.trees,HTk.out]
                 rfl
               · rw [List.length_append,HJ.out.len]
                 rfl
             clear hown9 hown6 hg6 hnil ho6 hsA
             go_wp2_with fail
             go_roundw
             case rel=>exact ⟨i + 1,_,by omega,by go_num,HJ6.out⟩
             case measure=>simp [intOf]; omega
   · obtain rfl:i = ps.length := by omega
     have h1 := HJ.out.go
     have h2 := HJ.out.trees
     rw [List.drop_length] at h1
     rw [List.take_length] at h2
     have HE := hide (HYes.out sgs _ wr h1 h2 (HJ.out.set.weak HB1.out))
     clear h1 h2 hbJ hbW
     go_wp2_with fail
     exact HE.out
end Go.Proofs.YtojdpjpldokjmaaGreatDoor
namespace Go.Proofs.YtojdpjpldokjmaaGreatDoor.Pl
def addU (l:List (List V)) (n:Nat) (o:Out (List (List V) × Nat)):Out (List (List V) × Nat) := match o with
 | .error e=>.error e
 | .ok z=>.ok (l ++ z.1,n + z.2)
theorem addU_nil (o:Out (List (List V) × Nat)):addU [] 0 o = o := by
 cases o with
 | error e=>rfl
 | ok z=>simp [addU]
theorem addU_err {cols:List Col} {c:T} {ks:List Nat} {ts:List T} {r:List V} {rs l:List (List V)} {n e:Nat} (h:ev cols r c = .error e):addU l n (updGo cols c ks ts (r :: rs)) = .error e := by rw [updGo,h]; rfl
theorem addU_no {cols:List Col} {c:T} {ks:List Nat} {ts:List T} {r:List V} {rs l:List (List V)} {n:Nat} {x:V} (h:ev cols r c = .ok x) (hx:¬ x = tru true):addU l n (updGo cols c ks ts (r :: rs)) = addU (l ++ [r]) n (updGo cols c ks ts rs) := by
 rw [updGo,h]
 simp only
 rw [if_neg hx]
 cases updGo cols c ks ts rs with
 | error e=>rfl
 | ok z=>simp [addU]
theorem addU_serr {cols:List Col} {c:T} {ks:List Nat} {ts:List T} {r:List V} {rs l:List (List V)} {n e:Nat} {x:V} (h:ev cols r c = .ok x) (hx:x = tru true) (hs:setRow cols r r ks ts = .error e):addU l n (updGo cols c ks ts (r :: rs)) = .error e := by
 rw [updGo,h]
 simp only
 rw [if_pos hx,hs]
 rfl
theorem addU_yes {cols:List Col} {c:T} {ks:List Nat} {ts:List T} {r r':List V} {rs l:List (List V)} {n:Nat} {x:V} (h:ev cols r c = .ok x) (hx:x = tru true) (hs:setRow cols r r ks ts = .ok r'):addU l n (updGo cols c ks ts (r :: rs)) = addU (l ++ [r']) (n + 1) (updGo cols c ks ts rs) := by
 rw [updGo,h]
 simp only
 rw [if_pos hx,hs]
 simp only
 cases updGo cols c ks ts rs with
 | error e=>rfl
 | ok z=>simp [addU]; omega
end Go.Proofs.YtojdpjpldokjmaaGreatDoor.Pl
namespace Go.Proofs.YtojdpjpldokjmaaGreatDoor
open Go.RowKit Go.Deep
set_option linter.unusedSimpArgs false
set_option linter.unusedVariables false
theorem own_set1 {w:World} {base:Nat} {e:TypeId} {g n c i:Nat} {xs:List Value} {u:Value} (h:w.ownsRow base e 1 (.slice (some ⟨g,0,none⟩) n c) n xs):(w.setCell ⟨g,i,none⟩ u).ownsRow base e 1 (.slice (some ⟨g,0,none⟩) n c) n (xs.set i u) := by
 obtain ⟨h1,h2⟩ := h
 rcases h2 with ⟨h0,_⟩ | ⟨g',cap,cur,hv,hb,hg,hc,hm,hs,ht⟩
 · cases h0
 · cases hv
   refine ⟨by rw [List.length_set]; exact h1,.inr ⟨g,c,_,rfl,hb,blk_set hg _ _,hc,hm,by simp [hs],?_⟩⟩
   rw [<- ht]
   simp [List.take_set]
theorem own_oth {w:World} {base g o:Nat} {e:TypeId} {size n:Nat} {v u:Value} {xs:List Value} (h:w.ownsRow base e size v n xs) (hk:∀ k,v.ownBlock = some k -> k ≠ g):(w.setCell ⟨g,o,none⟩ u).ownsRow base e size v n xs :=
 own_at h (fun k hk' => Below.heap_setCell _ _ _ _ (hk k hk'))
theorem own_put3 {w:World} {base g o:Nat} {e:TypeId} {size n:Nat} {v:Value} {x:Pl.V} {xs:List Value} (h:w.ownsRow base e size v n xs) (hk:∀ k,v.ownBlock = some k -> k ≠ g):(put3 w g o x).ownsRow base e size v n xs :=
 own_oth (own_oth (own_oth h hk) hk) hk
def RowN (B:Nat) (wr:World) (qs:List Pl.PRow) (q:Pl.PRow):Prop := wr.ownsRow 0 34 3 q.2 q.1.length (rowC q.1) /\ (q ∈ qs \/ ∀ k,q.2.ownBlock = some k -> B <= k)
structure ChI (w0 wr:World) (cols:List Pl.Col) (c:Pl.T) (ks:List Nat) (ts:List Pl.T) (qs:List Pl.PRow) (i:Nat) (v:Value) (cnt:Nat) (done:List Pl.PRow):Prop where
 bel:Below w0.heap.size w0 wr
 own:wr.ownsRow w0.heap.size 32 1 v qs.length (sndC (done ++ qs.drop i))
 len:done.length = i
 each:∀ q ∈ done,RowN w0.heap.size wr qs q
 go:Pl.updGo cols c ks ts (qs.map (·.1)) = Pl.addU (done.map (·.1)) cnt (Pl.updGo cols c ks ts ((qs.drop i).map (·.1)))
 cnt:cnt <= i
theorem ChI.below {w0 wr wx:World} {cols:List Pl.Col} {c:Pl.T} {ks:List Nat} {ts:List Pl.T} {qs:List Pl.PRow} {i:Nat} {v:Value} {cnt:Nat} {done:List Pl.PRow} (h:ChI w0 wr cols c ks ts qs i v cnt done) (hb:Below wr.heap.size wr wx):ChI w0 wx cols c ks ts qs i v cnt done :=
 ⟨h.bel.trans (hb.mono h.bel.size),own_below hb h.own,h.len,fun q hq=>⟨own_below hb (h.each q hq).1,(h.each q hq).2⟩,h.go,h.cnt⟩
structure InI (w0 wr:World) (cols:List Pl.Col) (ks:List Nat) (ts:List Pl.T) (qs:List Pl.PRow) (i j:Nat) (v nv:Value) (r cur:List Pl.V) (done:List Pl.PRow):Prop where
 bel:Below w0.heap.size w0 wr
 own:wr.ownsRow w0.heap.size 32 1 v qs.length (sndC done ++ nv :: sndC (qs.drop (i + 1)))
 row:wr.ownsRow w0.heap.size 34 3 nv cur.length (rowC cur)
 rlen:cur.length = r.length
 len:done.length = i
 each:∀ q ∈ done,RowN w0.heap.size wr qs q
 sep:∀ q ∈ done,∀ k,q.2.ownBlock = some k -> nv.ownBlock ≠ some k
 set:Pl.setRow cols r r ks ts = Pl.setRow cols r cur (ks.drop j) (ts.drop j)
theorem InI.below {w0 wr wx:World} {cols:List Pl.Col} {ks:List Nat} {ts:List Pl.T} {qs:List Pl.PRow} {i j:Nat} {v nv:Value} {r cur:List Pl.V} {done:List Pl.PRow} (h:InI w0 wr cols ks ts qs i j v nv r cur done) (hb:Below wr.heap.size wr wx):InI w0 wx cols ks ts qs i j v nv r cur done :=
 ⟨h.bel.trans (hb.mono h.bel.size),own_below hb h.own,own_below hb h.row,h.rlen,h.len,fun q hq=>⟨own_below hb (h.each q hq).1,(h.each q hq).2⟩,h.sep,h.set⟩
theorem InI.put {w0 wr:World} {cols:List Pl.Col} {ks:List Nat} {ts:List Pl.T} {qs:List Pl.PRow} {i j g n cap k:Nat} {v:Value} {r cur:List Pl.V} {done:List Pl.PRow} {t:Pl.T} {x:Pl.V} (h:InI w0 wr cols ks ts qs i j v (.slice (some ⟨g,0,none⟩) n cap) r cur done) (hk:k < cur.length) (hks:ks.drop j = k :: ks.drop (j + 1)) (hts:ts.drop j = t :: ts.drop (j + 1)) (hx:Pl.ev cols r t = .ok x) :
   InI w0 (put3 wr g (k * 3) x) cols ks ts qs i (j + 1) v (.slice (some ⟨g,0,none⟩) n cap) r (cur.set k x) done := by
 obtain ⟨C,m,hg⟩ := own_ty h.row (k := g) rfl
 have hgB := (h.row.lt g rfl).1
 refine ⟨((h.bel.setCell hgB _).setCell hgB _).setCell hgB _,own_put3 h.own (fun k' hk' => ?_),own_setV h.row hk,by rw [List.length_set]; exact h.rlen,h.len,fun q hq=>⟨own_put3 (h.each q hq).1 (fun k' hk' e=>h.sep q hq k' hk' (by rw [e]; rfl)),(h.each q hq).2⟩,h.sep,?_⟩
 · obtain ⟨C',m',hv⟩ := own_ty h.own hk'
   exact ty_ne hv hg (by decide)
 · rw [h.set,hks,hts,Pl.setRow,hx]
def PostChg (w:World) (qs:List Pl.PRow) (o:Pl.Out (List (List Pl.V) × Nat)) (e:Ending) (w':World):Prop := Below w.heap.size w w' /\
 ((∃ er:Nat,o = .error er /\ (er = 4 \/ er = 5) /\ e = .returned (.tuple #[.slice none 0 0,.int .i64 0,.int .i64 (er:Nat)])) \/
  (∃ (done:List Pl.PRow) (v:Value) (cnt:Nat),o = .ok (done.map (·.1),cnt) /\ e = .returned (.tuple #[v,.int .i64 (cnt:Nat),.int .i64 0]) /\ w'.ownsRow w.heap.size 32 1 v done.length (sndC done) /\ (∀ q ∈ done,RowN w.heap.size w' qs q) /\ (qs = [] -> v = .slice none 0 0) /\ done.length = qs.length))
theorem own_rowS {w:World} {base:Nat} {r:List Pl.V} {v:Value} (h:w.ownsRow base 34 3 v r.length (rowC r)) (hr:r ≠ []):RowS w w.heap.size r v := by
 rcases h.2 with ⟨rfl,h0⟩ | ⟨g,cap,cur,rfl,hb,hg,hc,hm,hs,ht⟩
 · exact absurd (List.length_eq_zero_iff.1 h0) hr
 · refine ⟨g,cap,rfl,lt_of_blk hg,fun i u hu=>?_⟩
   rw [blk_cell hg]
   rw [<- ht,List.getElem?_take] at hu
   split at hu
   · simpa using hu
   · cases hu
theorem changedM (X:MachLib) (cols:List Pl.Col) (c:Pl.T) (qs:List Pl.PRow) (sgs:List Sg) (rv sv cv:Value) (w:World) (hm:MatW w w.heap.size qs rv) (hro:∀ q ∈ qs,w.ownsRow 0 34 3 q.2 q.1.length (rowC q.1)) (hnil:qs = [] -> rv = .slice none 0 0) (hsv:RowsW w w.heap.size 2 sgC sgs sv) (hsp:∀ s ∈ sgs,ProgW w w.heap.size cols s.2.1 s.2.2) (hp:ProgW w w.heap.size cols c cv) (hf:Pl.Fine cols c) (hsf:∀ s ∈ sgs,Pl.Fine cols s.2.1) (hrow:∀ q ∈ qs,Pl.FineRow cols q.1 /\ q.1.length = cols.length) (hne:cols ≠ []) (hpl:∀ s ∈ sgs,s.1 < cols.length) (hl:qs.length <= 1000) (hsl:sgs.length <= 1000) (hcl:cols.length <= 1000) :
   Calls Tryz.prog 109 #[rv,sv,.agg #[cv]] w (PostChg w qs (Pl.updGo cols c (places sgs) (sgs.map (fun s=>s.2.1)) (qs.map (·.1)))) := by
 obtain ⟨ra,rc,rfl⟩ := hm.1.slice
 obtain ⟨sa,sc,rfl⟩ := hsv.slice
 obtain ⟨ca,cn,cc,rfl⟩ := hp.slice
 have hb0:Below w.heap.size w (w.alloc (.cells #[.slice ca cn cc] 204)) := (Below.refl _ _).alloc (Nat.le_refl _) _
 have hx0:(w.alloc (.cells #[.slice ca cn cc] 204)).heap[w.heap.size]? = some (.cells #[.slice ca cn cc] 204) := blk_new _ _
 have hz0:w.heap.size < (w.alloc (.cells #[.slice ca cn cc] 204)).heap.size := by simp
 have HClone:Hid (Calls Tryz.prog 167 #[.slice ra qs.length rc] (w.alloc (.cells #[.slice ca cn cc] 204)) fun e w' => ∃ v,e = .returned v /\ ChI (w.alloc (.cells #[.slice ca cn cc] 204)) w' cols c (places sgs) (sgs.map (fun s=>s.2.1)) qs 0 v 0 [] /\ (qs = [] -> v = .slice none 0 0)) := by
   by_cases hq:qs = []
   · subst hq
     have e := hnil rfl
     simp only [List.length_nil] at e ⊢
     rw [e]
     refine (cloneNilM _).mono ?_
     rintro e w' ⟨rfl,rfl⟩
     exact ⟨_,rfl,⟨Below.refl _ _,World.ownsRow_nil _ _ _ _,rfl,fun q hq=>by simp at hq,by simp [Pl.addU_nil],Nat.le_refl _⟩,fun _=>rfl⟩
   · have hm0 := hm.below hb0
     obtain ⟨a',c',e,h2⟩ := hm0.1
     cases e
     obtain ⟨g,rfl,hg,hcell⟩ := h2 hq
     have hs:(sndC qs).length = qs.length := by simp [sndC]
     have := cloneRowsM (sndC qs) ⟨g,0,none⟩ rc (w.alloc (.cells #[.slice ca cn cc] 204)) (fun j u hj=>?_) (fun _=>hg) (fun u hu=>?_) (by rw [hs]; omega)
     · rw [hs] at this
       refine this.mono ?_
       rintro e w' ⟨hb,v,rfl,hown⟩
       exact ⟨v,rfl,⟨hb,by simpa using hown,rfl,fun q hq=>by simp at hq,by simp [Pl.addU_nil],Nat.le_refl _⟩,fun h=>absurd h hq⟩
     · rw [addr_add]
       unfold sndC at hj
       rw [List.getElem?_map] at hj
       obtain ⟨q,hq',rfl⟩ := Option.map_eq_some_iff.1 hj
       have := hcell j q hq' 0 _ rfl
       simpa using this
     · unfold sndC at hu
       obtain ⟨q,hq',rfl⟩ := List.mem_map.1 hu
       obtain ⟨a,c,e⟩ := (hm.2 q hq').slice
       rw [e]
       rfl
 generalize ho:Pl.updGo cols c (places sgs) (sgs.map (fun s=>s.2.1)) (qs.map (·.1)) = o
 have HO := hide ho
 have HM := hide hm
 have HRo := hide hro
 have HSv := hide hsv
 have HSp := hide hsp
 have HP := hide hp
 have HSf := hide hsf
 have HRow := hide hrow
 have HPl := hide hpl
 have HB0 := hide hb0
 have HX0 := hide hx0
 clear hm hro hsv hsp hp hsf hrow hpl hb0 hx0 ho
 go_enter Tryz.func109,Tryz.ntmps109
 go_wp2_with fail
 go_step3
 go_wp2_with fail
 refine (unhide HClone).mono ?_
 rintro e w1 ⟨v1,rfl,hc1,hn1⟩
 obtain ⟨va,vn,vc,rfl⟩ := own_slice hc1.own
 have HC1 := hide hc1
 have HN1 := hide hn1
 generalize hw0:w.alloc (.cells #[.slice ca cn cc] 204) = w0 at *
 clear hc1 hn1 HClone hw0
 go_wp2_with fail
 go_step3
 go_wp2_with fail
 go_loopw [10,23] (fun s10 s23 wr=>∃ (i cnt:Nat) (done:List Pl.PRow),i <= qs.length /\ s23 = .int .i64 (i:Nat) /\ s10 = .int .i64 (cnt:Nat) /\ cnt <= i /\ Hid (ChI w0 wr cols c (places sgs) (sgs.map (fun s=>s.2.1)) qs i (.slice va vn vc) cnt done)) (fun _ a _=>qs.length - (intOf a).toNat)
 case atStart=>exact ⟨0,0,[],Nat.zero_le _,rfl,rfl,Nat.le_refl _,HC1.out⟩
 case round =>
   obtain ⟨i,cnt,done,hi',rfl,rfl,hcnt,HI⟩ := hrel
   clear HC1
   have hbI := HI.out.bel
   have hbW:Below w.heap.size w wr := HB0.out.trans (hbI.mono HB0.out.size)
   have hbox:wr.heap[w.heap.size]? = some (.cells #[.slice ca cn cc] 204) := (hbI.block _ (lt_of_blk HX0.out)).trans HX0.out
   have bx := blk_cell hbox 0
   simp at bx
   have hbz := lt_of_blk hbox
   by_cases hlt:i < qs.length
   · have hpi:qs[i]? = some qs[i] := List.getElem?_eq_getElem hlt
     have HD:Hid (qs.drop i = qs[i] :: qs.drop (i + 1)) := List.drop_eq_getElem_cons hlt
     have hmem := List.getElem_mem hlt
     generalize qs[i] = p at *
     obtain ⟨pr,pv⟩ := p
     obtain ⟨g,cap,he,hg,e0⟩ := (HM.out.1.keep (fun k hk=>hbW.block k hk)).at1 hpi
     cases he
     have hgz:g < wr.heap.size := Nat.lt_of_lt_of_le hg hbW.size
     obtain ⟨qa,qc,hqv⟩:∃ a c,pv = .slice a pr.length c := (HM.out.2 _ hmem).slice
     subst hqv
     have HRun := hide (holdsT X (HP.out.below hbW) ((HM.out.2 _ hmem).below hbW) hf (HRow.out _ hmem).1)
     simp only at e0
     have HMem := hide hmem
     clear hbI hbox hmem hpi
     cases hev:Pl.ev cols pr c with
     | error er =>
       have her:((er:Int) != 0) = true := by have := ev_err hev; simp; omega
       have HEr := hide (ev_err hev)
       simp only at HRun
       rw [hev] at HRun
       have HE:Hid (o = .error er) := by unfold Hid; rw [<- HO.out,HI.out.go,HD.out]; exact Pl.addU_err hev
       simp only [holdV] at HRun
       go_wp2_with fail
       refine (unhide HRun).mono ?_
       rintro e w2 ⟨rfl,hb2⟩
       have HB2 := hide (hbW.trans (hb2.mono hbW.size))
       clear hb2 HRun
       go_wp2_with fail
       (try rw [Exit.noGoto_ret])
       exact bodyPost_ret (v := .tuple #[.slice none 0 0,.int .i64 0,.int .i64 (er:Nat)]) (by simp [results,Tryz.results109,go_sem]) rfl ⟨HB2.out,.inl ⟨er,HE.out,HEr.out,rfl⟩⟩
     | ok x =>
       simp only at HRun
       rw [hev] at HRun
       simp only [holdV] at HRun
       have HEv := hide hev
       clear hev
       by_cases hx:x = Pl.tru true
       · rw [Pl.V.same_yes hx] at HRun
         have HXx := hide hx
         clear hx
         go_wp2_with fail
         refine (unhide HRun).mono ?_
         rintro e w2 ⟨rfl,hb2⟩
         have hI2 := HI.out.below hb2
         have hbW2:Below w.heap.size w w2 := hbW.trans (hb2.mono hbW.size)
         have hrl:pr.length = cols.length := (HRow.out _ HMem.out).2
         have hpn:0 < pr.length := by
           rw [hrl]
           exact List.length_pos_iff.2 hne
         have hpne:pr ≠ [] := List.length_pos_iff.1 hpn
         have hpl1:pr.length <= 1000 := by omega
         have HRl := hide hrl
         have HCl := hide (cloneValsM pr (.slice qa pr.length qc) w2 (own_rowS (own_at (HRo.out _ HMem.out) (fun k hk=>hbW2.block k ((HRo.out _ HMem.out).lt k hk).2)) hpne) hpl1)
         have HI2 := hide hI2
         have hI2z := hI2.bel.size
         clear hb2 HRun hI2 hbW2 bx hbz e0 hrl hpne
         go_wp2_with fail
         refine (unhide HCl).mono ?_
         rintro e w3 ⟨hb3,v3,rfl,hown3⟩
         obtain ⟨gn,nc,rfl⟩:∃ gn nc,v3 = .slice (some ⟨gn,0,none⟩) pr.length nc := by
           rcases hown3.2 with ⟨_,h0⟩ | ⟨gn,nc,_,hv,_⟩
           · omega
           · exact ⟨gn,nc,hv⟩
         have hI3 := HI2.out.below hb3
         obtain ⟨g9,c9,cur9,hv9,hg9,hs9⟩:∃ g9 c9 cur9,Value.slice va vn vc = .slice (some ⟨g9,0,none⟩) qs.length c9 /\ w3.heap[g9]? = some (.cells cur9 32 (0,0)) /\ qs.length <= cur9.size := by
           rcases hI3.own.2 with ⟨_,h0⟩ | ⟨g9,c9,cur9,hv,hb,hg,hc,hm,hs,ht⟩
           · omega
           · exact ⟨g9,c9,cur9,hv,hg,by omega⟩
         cases hv9
         have hd9:w3.cell? ⟨g9,i,none⟩ = some cur9[i] := by rw [blk_cell hg9]; simp
         have hf9 := blk_frozen hg9 i
         have hz9 := lt_of_blk hg9
         have hii:(i:Int) < (qs.length:Nat) := by omega
         have HIn0:Hid (InI w0 (w3.setCell ⟨g9,i,none⟩ (.slice (some ⟨gn,0,none⟩) pr.length nc)) cols (places sgs) (sgs.map (fun s=>s.2.1)) qs i 0 (.slice (some ⟨g9,0,none⟩) qs.length vc) (.slice (some ⟨gn,0,none⟩) pr.length nc) pr pr done) := by
           have hB:w0.heap.size <= g9 := (hI3.own.lt g9 rfl).1
           refine ⟨hI3.bel.setCell hB _,?_,own_base (own_oth hown3 (fun k hk e=>?_)) hI2z,rfl,hI3.len,fun q hq=>⟨own_oth (hI3.each q hq).1 (fun k hk e=>?_),(hI3.each q hq).2⟩,fun q hq k hk e=>?_,by simp⟩
           · have h := own_set1 (i := i) (u := .slice (some ⟨gn,0,none⟩) pr.length nc) hI3.own
             rw [HD.out] at h
             have e:(sndC (done ++ (pr,Value.slice qa pr.length qc) :: qs.drop (i + 1))).set i (.slice (some ⟨gn,0,none⟩) pr.length nc) = sndC done ++ .slice (some ⟨gn,0,none⟩) pr.length nc :: sndC (qs.drop (i + 1)) := by
               unfold sndC
               rw [List.map_append,List.map_cons,List.set_append_right _ _ (by rw [List.length_map,hI3.len]; exact Nat.le_refl _)]
               rw [List.length_map,hI3.len,Nat.sub_self,List.set_cons_zero]
             rw [e] at h
             exact h
           · subst e
             obtain ⟨C,m,h1⟩ := own_ty hown3 hk
             exact ty_ne h1 hg9 (by decide) rfl
           · subst e
             obtain ⟨C,m,h1⟩ := own_ty (hI3.each q hq).1 hk
             exact ty_ne h1 hg9 (by decide) rfl
           · have h1 := ((HI2.out.each q hq).1.lt k hk).2
             have h2 := (hown3.lt k e).1
             omega
         clear hb3 hown3 hI3 HCl HI2
         go_wp2_with fail
         go_loopw [48] (fun s48 wr2=>∃ (j:Nat) (cur:List Pl.V),j <= sgs.length /\ s48 = .int .i64 (j:Nat) /\ Hid (InI w0 wr2 cols (places sgs) (sgs.map (fun s=>s.2.1)) qs i j (.slice (some ⟨g9,0,none⟩) qs.length vc) (.slice (some ⟨gn,0,none⟩) pr.length nc) pr cur done)) (fun a _=>sgs.length - (intOf a).toNat)
         case atStart=>exact ⟨0,pr,Nat.zero_le _,rfl,HIn0.out⟩
         case round =>
           obtain ⟨j,cur,hj',rfl,HJ⟩ := hrel
           clear HIn0 hd9 hf9 hg9 hz9 hbW
           have hbJ:Below w.heap.size w wr := HB0.out.trans (HJ.out.bel.mono HB0.out.size)
           by_cases hjl:j < sgs.length
           · have hsj:sgs[j]? = some sgs[j] := List.getElem?_eq_getElem hjl
             have hsm := List.getElem_mem hjl
             have HKs:Hid ((places sgs).drop j = sgs[j].1 :: (places sgs).drop (j + 1)) := by
               unfold Hid places
               rw [<- List.map_drop,<- List.map_drop,List.drop_eq_getElem_cons hjl]
               rfl
             have HTs:Hid ((sgs.map (fun s=>s.2.1)).drop j = sgs[j].2.1 :: (sgs.map (fun s=>s.2.1)).drop (j + 1)) := by
               unfold Hid
               rw [<- List.map_drop,<- List.map_drop,List.drop_eq_getElem_cons hjl]
               rfl
             generalize sgs[j] = s at *
             obtain ⟨k,st,su⟩ := s
             obtain ⟨gs,caps,hes,hgs,s0,s1⟩ := (HSv.out.keep (fun k hk=>hbJ.block k hk)).sg hsj
             cases hes
             have hgsz:gs < wr.heap.size := Nat.lt_of_lt_of_le hgs hbJ.size
             obtain ⟨pa,pn,pc,hsu⟩ := (HSp.out _ hsm).slice
             simp only at hsu s0 s1
             subst hsu
             have hb1:Below wr.heap.size wr (wr.alloc (.cells #[.int .i64 (k:Nat),.slice pa pn pc] 275)) := (Below.refl _ _).alloc (Nat.le_refl _) _
             have HRun := hide (runT X (((HSp.out _ hsm).below hbJ).below hb1) (((HM.out.2 _ HMem.out).below hbJ).below hb1) (HSf.out _ hsm) (HRow.out _ HMem.out).1)
             have hkc:k < pr.length := by rw [HRl.out]; exact HPl.out _ hsm
             have HB1 := hide hb1
             simp only at HRun
             clear hb1 hsj hsm
             cases hev:Pl.ev cols pr st with
             | error er =>
               have her:((er:Int) != 0) = true := by have := ev_err hev; simp; omega
               have HEr := hide (ev_err hev)
               rw [hev] at HRun
               have HE:Hid (o = .error er) := by
                 unfold Hid
                 rw [<- HO.out,HI.out.go,HD.out]
                 refine Pl.addU_serr HEv.out HXx.out ?_
                 rw [HJ.out.set,HKs.out,HTs.out,Pl.setRow,hev]
               simp only [outV,vV_eq] at HRun
               clear hev
               go_wp2_with fail
               refine (unhide HRun).mono ?_
               rintro e w5 ⟨rfl,hb5⟩
               have HB5 := hide ((hbJ.trans (HB1.out.mono hbJ.size)).trans (hb5.mono (by have := hbJ.size; simp; omega)))
               clear hb5 HRun
               go_wp2_with fail
               (try rw [Exit.noGoto_ret])
               exact bodyPost_ret (v := .tuple #[.slice none 0 0,.int .i64 0,.int .i64 (er:Nat)]) (by simp [results,Tryz.results109,go_sem]) rfl ⟨HB5.out.alloc HB5.out.size _,.inl ⟨er,HE.out,HEr.out,rfl⟩⟩
             | ok xv =>
               rw [hev] at HRun
               simp only [outV,vV_eq] at HRun
               have HEv2 := hide hev
               clear hev
               go_wp2_with fail
               refine (unhide HRun).mono ?_
               rintro e w5 ⟨rfl,hb5⟩
               have hJ5 := (HJ.out.below HB1.out).below hb5
               have hx5:w5.heap[wr.heap.size]? = some (.cells #[.int .i64 (k:Nat),.slice pa pn pc] 275) := (hb5.block _ (by simp)).trans (blk_new _ _)
               have hb6:Below w5.heap.size w5 (w5.alloc (.cells #[.int .i64 xv.kind,.int .i64 xv.n,.string ⟨xv.s.toArray⟩] 34)) := (Below.refl _ _).alloc (Nat.le_refl _) _
               have hJ6 := hJ5.below hb6
               have hx6 := (hb6.block _ (lt_of_blk hx5)).trans hx5
               have hy6:(w5.alloc (.cells #[.int .i64 xv.kind,.int .i64 xv.n,.string ⟨xv.s.toArray⟩] 34)).heap[w5.heap.size]? = some (.cells #[.int .i64 xv.kind,.int .i64 xv.n,.string ⟨xv.s.toArray⟩] 34) := blk_new _ _
               clear hb5 HRun hJ5 hb6 hx5 s0 s1
               go_upto_region 17 with fail
               generalize w5.alloc (.cells #[.int .i64 xv.kind,.int .i64 xv.n,.string ⟨xv.s.toArray⟩] 34) = W6 at *
               have x0 := blk_cell hx6 0
               have y0 := blk_cell hy6 0
               have y1 := blk_cell hy6 1
               have y2 := blk_cell hy6 2
               simp at x0 y0 y1 y2
               have xz := lt_of_blk hx6
               have yz := lt_of_blk hy6
               obtain ⟨g9z,hc9⟩ := own_cells hJ6.own
               have o9 := hc9 i (.slice (some ⟨gn,0,none⟩) pr.length nc) (by rw [List.getElem?_append_right (by simp [sndC,hJ6.len])]; simp [sndC,hJ6.len])
               have hrow6 := hJ6.row
               rw [hJ6.rlen] at hrow6
               obtain ⟨gnz,hcn⟩ := own_cells hrow6
               have hcl3 := rowC_len cur
               rw [hJ6.rlen] at hcl3
               have r0 := hcn (k * 3) _ (List.getElem?_eq_getElem (show k * 3 < (rowC cur).length by omega))
               have r1 := hcn (k * 3 + 1) _ (List.getElem?_eq_getElem (show k * 3 + 1 < (rowC cur).length by omega))
               have r2 := hcn (k * 3 + 2) _ (List.getElem?_eq_getElem (show k * 3 + 2 < (rowC cur).length by omega))
               obtain ⟨curn,hgn⟩ := own_row hrow6 gn rfl
               have f0 := blk_frozen hgn (k * 3)
               have f1 := blk_frozen hgn (k * 3 + 1)
               have f2 := blk_frozen hgn (k * 3 + 2)
               have hki:(k:Int) < (pr.length:Nat) := by omega
               have HJ7:Hid (InI w0 (put3 W6 gn (k * 3) xv).drew cols (places sgs) (sgs.map (fun s=>s.2.1)) qs i (j + 1) (.slice (some ⟨g9,0,none⟩) qs.length vc) (.slice (some ⟨gn,0,none⟩) pr.length nc) pr (cur.set k xv) done) := (hJ6.put (by rw [hJ6.rlen]; exact hkc) HKs.out HTs.out HEv2.out).below (Below.refl _ _).drew
               unfold put3 at HJ7
               generalize (rowC cur)[k * 3]'_ = u0 at *
               generalize (rowC cur)[k * 3 + 1]'_ = u1 at *
               generalize (rowC cur)[k * 3 + 2]'_ = u2 at *
               clear hJ6 hx6 hy6 hc9 hcn hrow6 hcl3 hgn HKs HTs HJ HB1
               go_region
               all_goals go_wp2_with fail
               all_goals
                 go_roundw
                 case rel=>exact ⟨j + 1,_,by omega,by go_num,HJ7.out⟩
                 case measure=>simp [intOf]; omega
           · obtain rfl:j = sgs.length := by omega
             have HIn:Hid (ChI w0 wr cols c (places sgs) (sgs.map (fun s=>s.2.1)) qs (i + 1) (.slice (some ⟨g9,0,none⟩) qs.length vc) (cnt + 1) (done ++ [(cur,.slice (some ⟨gn,0,none⟩) pr.length nc)])) := by
               have h := HJ.out
               have hset:Pl.setRow cols pr pr (places sgs) (sgs.map (fun s=>s.2.1)) = .ok cur := by
                 rw [h.set,List.drop_of_length_le (by simp [places])]
                 rfl
               refine ⟨h.bel,?_,by rw [List.length_append,h.len]; rfl,fun q hq=>?_,?_,by omega⟩
               · have := h.own
                 simpa [sndC] using this
               · rcases List.mem_append.1 hq with hq | hq
                 · exact h.each q hq
                 · simp at hq
                   subst hq
                   exact ⟨own_base h.row (Nat.zero_le _),.inr (fun k hk=>(h.row.lt k hk).1)⟩
               · rw [HI.out.go,HD.out,List.map_append]
                 exact Pl.addU_yes HEv.out HXx.out hset
             clear HJ hbJ
             go_wp2_with fail
             go_roundw
             case rel=>exact ⟨i + 1,cnt + 1,_,by omega,by go_num,by go_num,by omega,HIn.out⟩
             case measure=>simp [intOf]; omega
       · rw [Pl.V.same_no hx] at HRun
         have HXx := hide hx
         clear hx
         go_wp2_with fail
         refine (unhide HRun).mono ?_
         rintro e w2 ⟨rfl,hb2⟩
         have HI2:Hid (ChI w0 w2 cols c (places sgs) (sgs.map (fun s=>s.2.1)) qs (i + 1) (.slice va vn vc) cnt (done ++ [(pr,.slice qa pr.length qc)])) := by
           have h := HI.out.below hb2
           refine ⟨h.bel,?_,by rw [List.length_append,h.len]; rfl,fun q hq=>?_,?_,by omega⟩
           · have := h.own
             rw [HD.out] at this
             simpa [sndC] using this
           · rcases List.mem_append.1 hq with hq | hq
             · exact h.each q hq
             · simp at hq
               subst hq
               exact ⟨own_below hb2 (own_at (HRo.out _ HMem.out) (fun k hk=>hbW.block k ((HRo.out _ HMem.out).lt k hk).2)),.inl HMem.out⟩
           · rw [h.go,HD.out,List.map_append]
             exact Pl.addU_no HEv.out HXx.out
         clear hb2 HRun
         go_wp2_with fail
         go_roundw
         case rel=>exact ⟨i + 1,cnt,_,by omega,by go_num,rfl,by omega,HI2.out⟩
         case measure=>simp [intOf]; omega
   · obtain rfl:i = qs.length := by omega
     have HE:Hid (o = .ok (done.map (·.1),cnt)) := by unfold Hid; rw [<- HO.out,HI.out.go,List.drop_length]; simp [Pl.updGo,Pl.addU]
     have HOwn:Hid (wr.ownsRow w.heap.size 32 1 (.slice va vn vc) done.length (sndC done)) := by
       have := HI.out.own
       rw [List.drop_length,List.append_nil] at this
       rw [HI.out.len]
       exact own_base this HB0.out.size
     have HEa:Hid (∀ q ∈ done,RowN w.heap.size wr qs q) := fun q hq=>⟨(HI.out.each q hq).1,(HI.out.each q hq).2.imp id (fun h k hk=>Nat.le_trans HB0.out.size (h k hk))⟩
     clear hbI hbox
     go_wp2_with fail
     (try rw [Exit.noGoto_ret])
     exact bodyPost_ret (v := .tuple #[.slice va vn vc,.int .i64 (cnt:Nat),.int .i64 0]) (by simp [results,Tryz.results109,go_sem]) rfl ⟨hbW,.inr ⟨done,_,cnt,HE.out,rfl,HOwn.out,HEa.out,HN1.out,HI.out.len⟩⟩
theorem doUpdate_1 {D:Pl.DB} {s:Pl.St} (h:Pl.tabAt D s.table = none):Pl.doUpdate D s = (D,Pl.no 2) := by unfold Pl.doUpdate; rw [h]
theorem doUpdate_2 {D:Pl.DB} {s:Pl.St} {i er:Nat} (h:Pl.tabAt D s.table = some i) (h1:Pl.setsGo (Pl.tabD D i) [] s.items = .error er):Pl.doUpdate D s = (D,Pl.no er) := by unfold Pl.doUpdate; rw [h]; simp only [h1]
theorem doUpdate_3 {D:Pl.DB} {s:Pl.St} {i er:Nat} {ks:List Nat} (h:Pl.tabAt D s.table = some i) (h1:Pl.setsGo (Pl.tabD D i) [] s.items = .ok ks) (h2:Pl.tcAs (Pl.scope (Pl.tabD D i).name (Pl.tabD D i)) (Pl.cond s.whr) 3 = some er):Pl.doUpdate D s = (D,Pl.no er) := by unfold Pl.doUpdate; rw [h]; simp only [h1,h2]
theorem doUpdate_4 {D:Pl.DB} {s:Pl.St} {i er:Nat} {ks:List Nat} (h:Pl.tabAt D s.table = some i) (h1:Pl.setsGo (Pl.tabD D i) [] s.items = .ok ks) (h2:Pl.tcAs (Pl.scope (Pl.tabD D i).name (Pl.tabD D i)) (Pl.cond s.whr) 3 = none) (h3:Pl.updGo (Pl.scope (Pl.tabD D i).name (Pl.tabD D i)) (Pl.cond s.whr) ks (s.items.map (·.tree)) (Pl.tabD D i).rows = .error er):Pl.doUpdate D s = (D,Pl.no er) := by unfold Pl.doUpdate; rw [h]; simp only [h1,h2,h3]
theorem doUpdate_5 {D:Pl.DB} {s:Pl.St} {i:Nat} {ks:List Nat} {z:List (List Pl.V) × Nat} (h:Pl.tabAt D s.table = some i) (h1:Pl.setsGo (Pl.tabD D i) [] s.items = .ok ks) (h2:Pl.tcAs (Pl.scope (Pl.tabD D i).name (Pl.tabD D i)) (Pl.cond s.whr) 3 = none) (h3:Pl.updGo (Pl.scope (Pl.tabD D i).name (Pl.tabD D i)) (Pl.cond s.whr) ks (s.items.map (·.tree)) (Pl.tabD D i).rows = .ok z):Pl.doUpdate D s = (Pl.setRows D i z.1,⟨[],z.2,0⟩) := by unfold Pl.doUpdate; rw [h]; simp only [h1,h2,h3]
theorem ent_changed (vs:Array Value) (w:World):(callFunc 109 vs).run Tryz.prog w = .ok (.enter 109 vs) w := by
 have h1:(Tryz.f109.name == "runtime.NumGoroutine") = false := by kernel_rfl
 have h2 : Tryz.f109.body.isNone = false := by kernel_rfl
 have h1':¬ Tryz.f109.name = "runtime.NumGoroutine" := by simpa using h1
 have h2':¬ Tryz.f109.body = none := by intro e; rw [e] at h2; cases h2
 simp [callFunc,go_sem,Tryz.func109,h1',h2']
def PostCg (W:World) (qs:List Pl.PRow) (o:Pl.Out (List (List Pl.V) × Nat)) (v:Value) (w':World):Prop := ∃ (a:Option Addr) (m c cnt er:Nat),v = .tuple #[.slice a m c,.int .i64 (cnt:Nat),.int .i64 (er:Nat)] /\ Below W.heap.size W w' /\
 ((o = .error er /\ (er = 4 \/ er = 5)) \/ (er = 0 /\ ∃ done:List Pl.PRow,o = .ok (done.map (·.1),cnt) /\ w'.ownsRow W.heap.size 32 1 (.slice a m c) done.length (sndC done) /\ (∀ q ∈ done,RowN W.heap.size w' qs q) /\ (qs = [] -> Value.slice a m c = .slice none 0 0) /\ done.length = qs.length))
theorem chg_ret {W:World} {f:Nat} {args:Array Value} {qs:List Pl.PRow} {o:Pl.Out (List (List Pl.V) × Nat)} (h:Calls Tryz.prog f args W (PostChg W qs o)):Calls Tryz.prog f args W fun e w' => ∃ v,e = .returned v /\ PostCg W qs o v w' := by
 refine h.mono ?_
 rintro e w' ⟨hb,⟨er,h1,h2,rfl⟩ | ⟨done,v,cnt,h1,rfl,h2,h3,h4,h5⟩⟩
 · exact ⟨_,rfl,none,0,0,0,er,rfl,hb,.inl ⟨h1,h2⟩⟩
 · obtain ⟨a,m,c,rfl⟩ := own_slice h2
   exact ⟨_,rfl,a,m,c,cnt,0,rfl,hb,.inr ⟨rfl,done,h1,h2,h3,h4,h5⟩⟩
theorem SetI.mem {w w1:World} {cols:List Pl.Col} {sv:Value} {sgs:List Sg} (h:SetI w w1 cols sv sgs):RowsW w1 w1.heap.size 2 sgC sgs sv /\ ∀ s ∈ sgs,ProgW w1 w1.heap.size cols s.2.1 s.2.2 := ⟨h.rows,fun s hs=>(h.progs s hs).prog (fun k hk=>hk.1)⟩
theorem updateM (X:MachLib):UpdM := by
 intro lo w M b n lay D s ps u v h hn hps hsu hv hs hkd hlo
 have hnz := lt_of_blk hn
 have n0 := blk_cell hn 0
 have n1 := blk_cell hn 1
 have n2 := blk_cell hn 2
 simp at n0 n1 n2
 obtain ⟨ua,uc,rfl⟩ := hsu.1.slice
 have HF := hide (findM s.table w M b lay D h.db)
 have HX := hide h
 have HV := hide hv
 have HS := hide hs
 have HPs := hide hps
 have HSu := hide hsu
 have HKd := hide hkd
 generalize hD2:Pl.doUpdate D s = out
 have HD2 := hide hD2
 have HNo:Hid (∀ er w',out = (D,Pl.no er) -> Below w.heap.size w w' -> PostCh lo w M b out (.returned (.tuple #[.int .i64 0,.int .i64 (er:Nat)])) w') := fun er w' ho hb=>by
   rw [ho]; exact ⟨rfl,M,lay,DbStep.below h.db hb⟩
 have HYes:Hid (∀ w' M' lay' D' (c:Int),out = (D',⟨[],c,0⟩) -> DbStep lo w M b D' w' M' lay' -> PostCh lo w M b out (.returned (.tuple #[.int .i64 c,.int .i64 0])) w') := fun w' M' lay' D' c ho hst=>by
   rw [ho]; exact ⟨rfl,M',lay',hst⟩
 generalize PostCh lo w M b out = Post at *
 obtain ⟨va,hva⟩ := hv.ptr
 subst hva
 clear hs hn h hv hD2 hps hsu hkd
 cases hta:Pl.tabAt D s.table with
 | none =>
   rw [hta] at HF
   have HE := hide (HNo.out 2 w (by rw [<- HD2.out]; exact doUpdate_1 hta) (Below.refl _ _))
   simp only [tabPtr] at HF
   go_enter Tryz.func68,Tryz.ntmps68
   go_wp2_with fail
   refine (unhide HF).mono ?_
   rintro e w1 ⟨rfl,rfl⟩
   go_wp2_with fail
   exact HE.out
 | some i =>
   obtain ⟨l,hl,htD,hptr⟩ := tab_of HX.out.db (Pl.tabAt_lt hta)
   rw [hta,hptr] at HF
   have hT := HX.out.db.tabs i l _ hl htD
   have hokT := HX.out.db.ok.2 _ (Pl.tabD_mem (Pl.tabAt_lt hta))
   obtain ⟨cv,hlb,hcv,_⟩ := hT.blk
   have l0 := blk_cell hlb 0
   have l1 := blk_cell hlb 1
   have l2 := blk_cell hlb 2
   simp at l0 l1 l2
   have hlz := lt_of_blk hlb
   have HTA := hide hta
   have HL := hide hl
   have HTD := hide htD
   have HOkT := hide hokT
   have HCs := hide (compileSettingsM (Pl.tabD D i) ps l.n (.slice ua ps.length uc) cv w hlz l0 l1 (tcsC_rows hcv) (by have := hokT.ncols; omega) HX.out.rules HX.out.glob.2 HSu.out (fun p hp=>HS.out.items (by rw [HKd.out]; decide) p.1 (by rw [<- HPs.out]; exact List.mem_map_of_mem hp)) (by
     have h1 := HS.out.len
     rw [<- HPs.out,List.length_map] at h1
     omega))
   rw [HPs.out] at HCs
   clear hptr hT hta hlb hcv l1
   go_enter Tryz.func68,Tryz.ntmps68
   go_wp2_with fail
   refine (unhide HF).mono ?_
   rintro e w1 ⟨rfl,h1⟩
   rw [h1]
   clear h1 w1 HF
   go_wp2_with fail
   refine (unhide HCs).mono ?_
   rintro e w1 ⟨hb1,hp1⟩
   rcases hp1 with ⟨er,h1,h2,rfl⟩ | ⟨sgs,sv,h1,h2,rfl,h3⟩
   · have hne:((er:Int) != 0) = true := by simp; omega
     have HE := hide (HNo.out er w1 (by rw [<- HD2.out]; exact doUpdate_2 HTA.out h1) hb1)
     clear h1 h2 hb1 HCs
     go_wp2_with fail
     exact HE.out
   · obtain ⟨sa,sn,sc,rfl⟩ := own_slice h3.own
     have HGo := hide h1
     have HTr := hide h2
     have HSg := hide h3
     have HB1 := hide hb1
     have X1 := HX.out.below hb1
     have HX1 := hide X1
     have HScope:Hid (∀ W',Below w1.heap.size w1 W' -> _) := fun W' hW=>scopeRows (X1.db.below hW) hl htD hokT (Pl.tabD D i).name
     have HCond:Hid (∀ W' v',Below w1.heap.size w1 W' -> RowsW W' W'.heap.size 3 colC (Pl.scope (Pl.tabD D i).name (Pl.tabD D i)) v' -> _) := fun W' v' hW hr=>cond_ret (conditionM s.whr (Pl.scope (Pl.tabD D i).name (Pl.tabD D i)) (.pointer va) v' W' ⟨(X1.below hW).rules,(X1.below hW).glob.2,((HV.out.keep (fun k hk=>hb1.block k hk)).more hb1.size |>.keep (fun k hk=>hW.block k hk)).more hW.size,HS.out.whr,hr,by rw [Pl.scope_len]; have := hokT.ncols; omega⟩)
     have HBd:Hid (Below w1.heap.size w1 w1.drew) := (Below.refl _ _).drew
     have HBe:Hid (Below w1.heap.size w1 (w1.alloc (.cells #[.slice none 0 0] 204)).drew) := ((Below.refl _ _).alloc (Nat.le_refl _) _).drew
     have HBx:Hid ((w1.alloc (.cells #[.slice none 0 0] 204)).drew.heap[w1.heap.size]? = some (.cells #[.slice none 0 0] 204)) := blk_new w1 _
     have k0 := (World.cell?_of_block (hb1.block l.n hlz)).trans l0
     have kz:l.n < w1.heap.size := Nat.lt_of_lt_of_le hlz hb1.size
     have q2 := (World.cell?_of_block (hb1.block n hnz)).trans n2
     have qz:n < w1.heap.size := Nat.lt_of_lt_of_le hnz hb1.size
     clear hl htD hokT h1 h2 h3 hb1 X1 HCs l0 n0 n1 n2
     go_upto_region 7 with fail
     go_cut [8,9] (fun s8 s9 wx=>∃ (xb:Nat) (p4:Option Addr) (n4 c4 er4:Nat),s9 = .pointer (some ⟨xb,0,none⟩) /\ s8 = .int .i64 (er4:Nat) /\ Hid (Below w1.heap.size w1 wx /\ wx.heap[xb]? = some (.cells #[.slice p4 n4 c4] 204) /\ CondR (Pl.scope (Pl.tabD D i).name (Pl.tabD D i)) (Pl.cond s.whr) wx p4 n4 c4 er4))
     case first =>
       go_region_law (first
         | (refine step_call2 rfl 106 (.tmp 37) (.tmp 41) _ rfl (.pointer (some ⟨l.n,0,none⟩)) (.string ⟨(Pl.tabD D i).name.toArray⟩) (ent_scope _ _) (by simp [Act.eval,Act.put]) (by simp [Act.eval,Act.put]) _ ((unhide HScope) _ HBd.out) ?_
            rintro v3 w3 ⟨hb3,⟨a3,n3,c3,rfl⟩,hr3⟩
            have HB3 := hide (HBd.out.trans hb3)
            have HR3 := hide hr3
            have b3n:n < w3.heap.size := (by have := HB3.out.size; omega)
            have c3n := (World.cell?_of_block (HB3.out.block n qz)).trans q2
            have HC3 := hide (Nat.le_refl 0)
            clear hb3 hr3)
         | (refine step_call2 rfl 106 (.tmp 37) (.tmp 41) _ rfl (.pointer (some ⟨l.n,0,none⟩)) (.string ⟨(Pl.tabD D i).name.toArray⟩) (ent_scope _ _) (by simp [Act.eval,Act.put]) (by simp [Act.eval,Act.put]) _ ((unhide HScope) _ HBe.out) ?_
            rintro v3 w3 ⟨hb3,⟨a3,n3,c3,rfl⟩,hr3⟩
            have HB3 := hide (HBe.out.trans (hb3.mono HBe.out.size))
            have HR3 := hide hr3
            have b3n:n < w3.heap.size := (by have := HB3.out.size; omega)
            have c3n := (World.cell?_of_block (HB3.out.block n qz)).trans q2
            have HE3:Hid (w3.heap[w1.heap.size]? = some (.cells #[.slice none 0 0] 204)) := (hb3.block _ (by simp [World.drew])).trans HBx.out
            clear hb3 hr3)
         | (refine step_call2 rfl 105 (.tmp 36) (.tmp 42) _ rfl (.pointer va) (.slice a3 n3 c3) (ent_condition _ _) (by simp [Act.eval,Act.put]) (by simp [Act.eval,Act.put]) _ ((unhide HCond) _ _ HB3.out HR3.out) ?_
            rintro v4 w4 ⟨p4,n4,c4,er4,rfl,hb4,hp4⟩
            have HB4 := hide (HB3.out.trans (hb4.mono HB3.out.size))
            have HP4 := hide hp4
            have hx4 := below_blk hb4 (lt_of_blk HE3.out) HE3.out
            have r0 := blk_cell hx4 0
            have rf := blk_frozen hx4 0
            simp at r0
            have rz := lt_of_blk hx4
            have HX4 := hide hx4
            have HZ4 := hide (lt_of_blk HE3.out)
            clear hb4 hp4 hx4)
         | (refine step_call2 rfl 105 (.tmp 36) (.tmp 42) _ rfl (.pointer va) (.slice a3 n3 c3) (ent_condition _ _) (by simp [Act.eval,Act.put]) (by simp [Act.eval,Act.put]) _ ((unhide HCond) _ _ HB3.out HR3.out) ?_
            rintro v4 w4 ⟨p4,n4,c4,er4,rfl,hb4,hp4⟩
            have HB4 := hide (HB3.out.trans (hb4.mono HB3.out.size))
            have HP4 := hide hp4
            have HLate := HC3
            clear hb4 hp4)
         | (refine step_call2 rfl 105 (.tmp 36) (.tmp 42) _ rfl (.pointer va) (.slice a3 n3 c3) (ent_condition _ _) (by simp [Act.eval,Act.put]) (by simp [Act.eval,Act.put]) _ ((unhide HCond) _ _ (HB3.out.alloc HB3.out.size (.cells #[.slice none 0 0] 204)) (HR3.out.below ((Below.refl _ _).alloc (Nat.le_refl _) (.cells #[.slice none 0 0] 204)))) ?_
            rintro v4 w4 ⟨p4,n4,c4,er4,rfl,hb4,hp4⟩
            have HB4 := hide ((HB3.out.alloc HB3.out.size (.cells #[.slice none 0 0] 204)).trans (hb4.mono (Nat.le_trans HB3.out.size (by simp))))
            have HP4 := hide hp4
            have hx4 := below_blk hb4 (by simp) (blk_new w3 (.cells #[.slice none 0 0] 204))
            have r0 := blk_cell hx4 0
            have rf := blk_frozen hx4 0
            simp at r0
            have rz := lt_of_blk hx4
            have HX4 := hide hx4
            have HMid := HC3
            clear hb4 hp4 hx4))
       all_goals go_wp2_with fail
       all_goals go_meet
       all_goals first
         | exact ⟨_,_,_,_,_,rfl,rfl,del_set HB4.out HX4.out (Nat.le_refl _) HZ4.out HP4.out⟩
         | exact ⟨_,_,_,_,_,rfl,rfl,del_set HB4.out HX4.out HB3.out.size (by simp) HP4.out⟩
         | exact ⟨_,_,_,_,_,rfl,rfl,del_late HB4.out HP4.out⟩
     case rest =>
       obtain ⟨xb,p4,n4,c4,er4,rfl,rfl,HCut⟩ := hcut
       obtain ⟨hb5,hx5,hc5⟩ := HCut.out
       have hbw5:Below w.heap.size w wc := HB1.out.trans (hb5.mono HB1.out.size)
       clear HCut HScope HCond HBd HBe HBx k0 kz q2 qz
       rcases hc5 with her | ⟨rfl,htc,hprog⟩
       · have hne:((er4:Int) != 0) = true := by have := tcAs_err her; simp; omega
         have HE := hide (HNo.out er4 wc (by rw [<- HD2.out]; exact doUpdate_3 HTA.out HGo.out her) hbw5)
         clear her hb5 hx5 hbw5
         go_wp2_with fail
         exact HE.out
       · have hX5 := HX.out.below hbw5
         have hT := hX5.db.tabs i l _ HL.out HTD.out
         obtain ⟨hm,hzf,hro⟩ := tabMat hT
         have hokT := HOkT.out
         have hrf:∀ p ∈ (Pl.tabD D i).rows.zip l.us,Pl.RowFor (Pl.scope (Pl.tabD D i).name (Pl.tabD D i)) p.1 := fun p hp=>(hokT.rows p.1 (by rw [<- hzf]; exact List.mem_map_of_mem hp)).src
         have hbd:Below wc.heap.size wc wc.drew := (Below.refl _ _).drew
         have hfine:Pl.Fine (Pl.scope (Pl.tabD D i).name (Pl.tabD D i)) (Pl.cond s.whr) := by
           obtain ⟨ty,h1,_⟩ := Pl.tcAs_ok htc
           exact ⟨Pl.cond_ok HS.out.whr,ty,h1⟩
         obtain ⟨mm,hmm,hsets⟩ := Pl.setsGo_ok HGo.out
         simp only [List.nil_append] at hmm
         subst hmm
         have hsl:sgs.length = s.items.length := by
           have := congrArg List.length HTr.out
           simpa using this
         have hsat:∀ q ∈ sgs,Pl.Fine (Pl.scope (Pl.tabD D i).name (Pl.tabD D i)) q.2.1 /\ q.1 < (Pl.tabD D i).cols.length := fun q hq=>by
           obtain ⟨j,hj,rfl⟩ := List.getElem_of_mem hq
           have h1:(places sgs)[j]? = some sgs[j].1 := by unfold places; rw [List.getElem?_map,List.getElem?_eq_getElem hj]; rfl
           have h2:(s.items.map (·.tree))[j]? = some sgs[j].2.1 := by rw [<- HTr.out,List.getElem?_map,List.getElem?_eq_getElem hj]; rfl
           obtain ⟨h3,h4⟩ := hsets.2 j _ _ h1 h2
           obtain ⟨ty,h5,_⟩ := Pl.tcAs_ok h4
           obtain ⟨it,hit,e⟩ := List.mem_map.1 (List.mem_of_getElem? h2)
           refine ⟨⟨?_,ty,h5⟩,h3⟩
           rw [<- e]
           exact HS.out.items (by rw [HKd.out]; decide) it hit
         have hsm := (HSg.out.below hb5).below hbd |>.mem
         have HCg := hide (chg_ret (changedM X (Pl.scope (Pl.tabD D i).name (Pl.tabD D i)) (Pl.cond s.whr) _ sgs l.rv (.slice sa sn sc) _ wc.drew (hm.below hbd) (fun q hq=>own_below hbd (hro q hq).1) (fun e=>hT.empty (by rw [<- hzf,e]; rfl)) hsm.1 hsm.2 (hprog.below hbd) hfine (fun q hq=>(hsat q hq).1) (fun q hq=>⟨⟨(hrf q hq).2.1,Nat.le_of_eq (hrf q hq).1.symm⟩,(hrf q hq).1⟩) (by
           intro e
           have h1:(Pl.scope (Pl.tabD D i).name (Pl.tabD D i)).length = 0 := by rw [e]; rfl
           rw [Pl.scope_len] at h1
           have := hokT.pos
           omega) (fun q hq=>by rw [Pl.scope_len]; exact (hsat q hq).2) (by rw [List.length_zip]; have := hokT.nrows; omega) (by rw [hsl]; have := HS.out.len; omega) (by rw [Pl.scope_len]; have := hokT.ncols; omega)))
         rw [hzf,HTr.out] at HCg
         obtain ⟨cv5,hlb,hcv5,_⟩ := hT.blk
         have l2' := blk_cell hlb 2
         simp at l2'
         have hlz' := lt_of_blk hlb
         have x0 := blk_cell hx5 0
         simp at x0
         have hxz := lt_of_blk hx5
         have HTc := hide htc
         have HZf := hide hzf
         have HRo := hide hro
         have HRf := hide hrf
         have HB5 := hide hbw5
         have HSt := hide hsets
         obtain ⟨ra,rc,hrv⟩ := own_slice1 hT.rows
         rw [hrv] at HCg l2'
         clear hb5 hx5 hX5 hT hm hzf hro hrf hokT hbd hfine hlb hcv5 hprog htc hrv l2 hsm hsat hsl hsets hbw5
         go_upto_region 10 with fail
         go_region_law (refine step_call3 rfl 109 (.tmp 53) (.tmp 54) (.tmp 55) _ rfl (.slice ra (Pl.tabD D i).rows.length rc) (.slice sa sn sc) (.agg #[.slice p4 n4 c4]) (ent_changed _ _) (by simp [Act.eval,Act.put]) (by simp [Act.eval,Act.put]) (by simp [Act.eval,Act.put]) _ (unhide HCg) ?_
                        rintro v6 w6 ⟨a6,m6,c6,cnt6,er6,rfl,hb6,hp6⟩
                        have HB6 := hide hb6
                        have HP6 := hide hp6
                        clear hb6 hp6)
         all_goals
           have hb6:Below wc.heap.size wc w6 := Below.trans (Below.refl _ _).drew HB6.out
           have hB6:Below w.heap.size w w6 := HB5.out.trans (hb6.mono HB5.out.size)
           rcases HP6.out with ⟨herr,her⟩ | ⟨rfl,done,hz,hown,heach,hemp,hlen⟩
           · have hne:((er6:Int) != 0) = true := by simp; omega
             have HE := hide (HNo.out er6 w6 (by rw [<- HD2.out]; exact doUpdate_4 HTA.out HGo.out HTc.out herr) hB6)
             clear herr her hb6 hB6 HP6 HCg HB6
             go_wp2_with fail
             exact HE.out
           · have hil := Pl.tabAt_lt HTA.out
             have hup := Pl.updGo_ok HOkT.out (fun x hx=>by
               obtain ⟨it,hit,rfl⟩ := List.mem_map.1 hx
               exact HS.out.items (by rw [HKd.out]; decide) it hit) HSt.out (fun r hr=>(HOkT.out.rows r hr).src) hz
             have hokd:Pl.okDB (Pl.setRows D i (done.map (·.1))) := HX.out.db.ok.set hil (by have := HOkT.out.nrows; have := hup.2.1; simp only at this; omega) (fun r hr=>(hup.1 r hr).unsrc)
             obtain ⟨⟨cv,hcv⟩,hst⟩ := tab_put (rows := done.map (·.1)) (us := sndC done) (v' := .slice a6 m6 c6) HX.out.db HL.out HTD.out hB6 (by rw [List.length_map]; exact own_base hown (show w.heap.size <= wc.heap.size from HB5.out.size)) (fun e=>hemp (List.length_eq_zero_iff.1 (by rw [<- hlen,List.map_eq_nil_iff.1 e]; rfl))) (fun j r u hr hu=>by
               rw [List.getElem?_map] at hr
               unfold sndC at hu
               rw [List.getElem?_map] at hu
               cases hj:done[j]? with
               | none=>rw [hj] at hr; cases hr
               | some p =>
                 rw [hj] at hr hu
                 cases hr; cases hu
                 obtain ⟨h1,h2⟩ := heach p (List.mem_of_getElem? hj)
                 refine ⟨h1,fun k hk=>?_⟩
                 rcases h2 with h2 | h2
                 · exact .inl ((HRo.out p h2).2 k hk)
                 · exact .inr ⟨Nat.le_trans HB5.out.size (h2 k hk),(h1.lt k hk).2⟩) hokd
             have HE := hide (HYes.out _ _ _ _ (cnt6:Nat) (by rw [<- HD2.out]; exact doUpdate_5 HTA.out HGo.out HTc.out hz) (hst.low hlo))
             have s2 := blk_cell hcv 2
             have sf := blk_frozen hcv 2
             simp at s2
             have sz := lt_of_blk hcv
             clear hb6 hB6 HP6 HCg HB6 hz hown heach hemp hlen hup hokd hcv hst l2' x0
             go_wp2_with fail
             exact HE.out
end Go.Proofs.YtojdpjpldokjmaaGreatDoor
