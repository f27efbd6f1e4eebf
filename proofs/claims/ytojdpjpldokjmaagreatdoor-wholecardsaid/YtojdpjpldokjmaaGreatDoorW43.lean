/- The keep Whole: the walk. -/
import Derived.Test.YtojdpjpldokjmaaGreatDoorW35
import Derived.Test.YtojdpjpldokjmaaGreatDoorW40
import Derived.Test.YtojdpjpldokjmaaGreatDoorW41
import Derived.Test.YtojdpjpldokjmaaGreatDoorW42
set_option maxHeartbeats 16000000
set_option maxRecDepth 100000
namespace Go.Proofs.YtojdpjpldokjmaaGreatDoor
open Go.RowKit Go.Deep
set_option linter.unusedSimpArgs false
set_option linter.unusedVariables false
theorem execOk_upd (HU:UpdM) {D:Pl.DB} {t:List UInt8} {s:Pl.St} (hp:Pl.pParse t = some s) (hk:s.kind = 117):ExecOk D t := ExecOk.of hp ⟨fun _=>HU,fun e=>absurd (hk.symm.trans e) (by decide)⟩
theorem s_told2 (x:List UInt8):(({ data := #[83,69,76,69,67,84,32] }:ByteArray) ++ { data := x.toArray }) ++ { data := #[44,32,116,46,97,44,32,98,44,32,99,32,70,82,79,77,32,116] } = ⟨(Pl.xTold2 x).toArray⟩ := by
 unfold Pl.xTold2
 rw [<- List.append_assoc]
 exact cat3 [83,69,76,69,67,84,32] x [44,32,116,46,97,44,32,98,44,32,99,32,70,82,79,77,32,116]
theorem s_upd (d x:List UInt8):((((({ data := #[85,80,68,65,84,69,32,116,32,83,69,84,32,97,32,61,32] }:ByteArray) ++ { data := d.toArray }) ++ { data := #[44,32,99,32,61,32,116,46,97,32,61,32] }) ++ { data := d.toArray }) ++ { data := #[32,87,72,69,82,69,32] }) ++ { data := x.toArray } = ⟨([85,80,68,65,84,69,32,116,32,83,69,84,32,97,32,61,32] ++ (d ++ ([44,32,99,32,61,32,116,46,97,32,61,32] ++ (d ++ ([32,87,72,69,82,69,32] ++ x))))).toArray⟩ := by
 rw [show (#[85,80,68,65,84,69,32,116,32,83,69,84,32,97,32,61,32]:Array UInt8) = [85,80,68,65,84,69,32,116,32,83,69,84,32,97,32,61,32].toArray from rfl,show (#[44,32,99,32,61,32,116,46,97,32,61,32]:Array UInt8) = [44,32,99,32,61,32,116,46,97,32,61,32].toArray from rfl,show (#[32,87,72,69,82,69,32]:Array UInt8) = [32,87,72,69,82,69,32].toArray from rfl]
 rw [cat2',cat2',cat2',cat2',cat2']
 simp
theorem SvG.base {w w1:World} {M:Nat -> Prop} (h:SaveG w) (hb:Below w.heap.size w w1) (hM:∀ k,M k -> w.heap.size <= k):SvG w1 M :=
 ⟨h.below hb,fun k hk hm=>by
   have h1 := h.lts k hk
   have h2 := hM k hm
   omega⟩
theorem wholeM (L:LexLib) (X:MachLib) (S:SaveLib) (HS:StableM 19) (HU:UpdM) (raw cnd:List Int) (by_:Int) (v1 v2:Value) (w:World) (h1:IntsAt w raw v1) (h2:IntsAt w cnd v2) (hr1:∀ x ∈ raw,Pl.in64 x) (hr2:∀ x ∈ cnd,Pl.in64 x) (hby:Pl.in64 by_) (hg:Globs w) (hsg:SaveG w) :
   Calls Tryz.prog 8 #[v1,v2,.int .i64 by_] w fun e w' => e = .returned (.bool true) /\ Below w.heap.size w w' := by
 have HSt := hide HS
 have HUp := hide HU
 have HLex := hide L
 have HMach := hide X
 have HSav := hide S
 have HB := hide (baseM L X raw v1 w h1 hr1 hg)
 have HI2 := hide h2
 have HR2 := hide hr2
 have HPk := hide (fun W=>pickM by_ 4 W hby (by omega) (by omega))
 have HLr := hide (Pl.base_l raw)
 have HT:Hid (∀ r ∈ (Pl.baseRows raw).1,Pl.TRow r) := fun r hr=>(Pl.base_l raw r hr).1
 have HHd := hide (Pl.base_head raw)
 have HSg := hide hsg
 obtain ⟨hl8,hl7,hl1⟩ := Pl.base_len raw
 have HD:Hid (Pl.baseDb raw = Pl.bTab (Pl.baseRows raw).1 (Pl.baseRows raw).2) := rfl
 generalize Pl.baseDb raw = D at *
 generalize (Pl.baseRows raw).1 = rt at *
 generalize (Pl.baseRows raw).2 = ru at *
 obtain ⟨a1,c1,rfl,_⟩ := h1
 obtain ⟨a2,c2,rfl,_⟩ := h2
 clear hg hr1 hr2 HS HU L X S hby hsg
 go_enter Tryz.func8,Tryz.ntmps8
 go_wp2_with fail
 refine (unhide HB).mono ?_
 rintro e w1 ⟨rfl,hb1,M1,lay1,hl1',hM1⟩
 rw [HD.out] at hl1'
 have HL1 := hide hl1'
 have HB1 := hide hb1
 have HN:Hid (∀ W M',Stp w1 M1 W M' -> Below w.heap.size w W) := fun W M' h=>stp_own hb1 hM1 h hb1.size
 have HV1 := hide (SvG.base HSg.out hb1 hM1)
 generalize hbb:w.heap.size = bb at *
 have HBB := hide hbb
 clear hbb hl1' hM1 hb1 HB HD
 have HC := hide (doesY HLex.out HMach.out HL1.out (t := Pl.wIns) (by decide) (execOk_kind (k := 105) (by rw [Pl.p_wIns]; rfl) (by decide) (by decide)) (Pl.w_ins hl8) rfl)
 go_wp2_with fail
 refine (unhide HC).mono ?_
 rintro e w2 ⟨rfl,M2,lay2,hs2,hl2⟩
 have HS2 := hide hs2
 have HL2 := hide hl2
 clear hs2 hl2 HC HL1
 have HC := hide (saveM HSav.out HL2.out.ex.db (HV1.out.step HS2.out).g)
 generalize hsv:Pl.save (Pl.bTab (rt ++ [Pl.rowL]) ru) = sv at *
 have HEq := hide hsv
 clear hsv
 go_wp2_with fail
 refine (unhide HC).mono ?_
 rintro e w3 ⟨rfl,hb3⟩
 have HS3 := hide (HS2.out.trans (Stp.below _ hb3))
 have HL3 := hide (HL2.out.below hb3)
 clear hb3 HC HS2 HL2
 have HC := hide (execK HLex.out HMach.out HL3.out (t := Pl.wUp1) (by decide) (execOk_upd HUp.out Pl.p_wUp1 rfl) (Pl.w_up1 HLr.out:Pl.exec (Pl.bTab (rt ++ [Pl.rowL]) ru) Pl.wUp1 = (Pl.bTab (rt ++ [Pl.rowL]) ru,⟨[],0,4⟩)))
 go_wp2_with fail
 refine (unhide HC).mono ?_
 rintro e w4 ⟨rv4,M4,lay4,rfl,hs4,hl4,hg4⟩
 obtain ⟨a4,c4,rfl⟩ := hg4.slice
 have HS4:Hid (Stp w1 M1 (w4.alloc (.cells #[.slice a4 0 c4,.int .i64 0] 36)) M4) := stp_box (HS3.out.trans hs4) _
 have HL4 := hide (live_box hl4 (.cells #[.slice a4 0 c4,.int .i64 0] 36))
 clear hs4 hl4 hg4 HC HS3 HL3
 have HC := hide (execK HLex.out HMach.out HL4.out (t := Pl.wUp2) (by decide) (execOk_upd HUp.out Pl.p_wUp2 rfl) (Pl.w_up2 HHd.out.choose_spec:Pl.exec (Pl.bTab (rt ++ [Pl.rowL]) ru) Pl.wUp2 = (Pl.bTab (rt ++ [Pl.rowL]) ru,⟨[],0,5⟩)))
 go_wp2_with fail
 refine (unhide HC).mono ?_
 rintro e w5 ⟨rv5,M5,lay5,rfl,hs5,hl5,hg5⟩
 obtain ⟨a5,c5,rfl⟩ := hg5.slice
 have HS5:Hid (Stp w1 M1 (w5.alloc (.cells #[.slice a5 0 c5,.int .i64 0] 36)) M5) := stp_box (HS4.out.trans hs5) _
 have HL5 := hide (live_box hl5 (.cells #[.slice a5 0 c5,.int .i64 0] 36))
 clear hs5 hl5 hg5 HC HS4 HL4
 have HC := hide (saveM HSav.out HL5.out.ex.db (HV1.out.step HS5.out).g)
 rw [HEq.out] at HC
 go_wp2_with fail
 refine (unhide HC).mono ?_
 rintro e w6 ⟨rfl,hb6⟩
 have HS6 := hide (HS5.out.trans (Stp.below _ hb6))
 have HL6 := hide (HL5.out.below hb6)
 clear hb6 HC HS5 HL5
 have HC := hide (doesY HLex.out HMach.out HL6.out (t := Pl.wDel) (by decide) (execOk_kind (k := 100) (by rw [Pl.p_wDel]; rfl) (by decide) (by decide)) (Pl.w_del HLr.out) rfl)
 go_wp2_with fail
 refine (unhide HC).mono ?_
 rintro e w7 ⟨rfl,M7,lay7,hs7,hlv7⟩
 have HS7 := hide (HS6.out.trans hs7)
 have HL7 := hide hlv7
 have HC := hide (condM cnd HR2.out 1 0 _ w7 (by omega) (by omega) (HI2.out.below (by rw [HBB.out]; exact HN.out _ _ HS7.out)))
 have hxl := Pl.wC_len cnd
 rw [show Pl.condN cnd 1 0 = Pl.wC cnd from rfl] at HC
 have HPu:Hid (∀ k,k < 4 -> ∃ s,Pl.pParse (Pl.xUpd k (Pl.wC cnd).x) = some s /\ s.kind = 117) := fun k hk=>⟨_,Pl.upd_parse hk (Pl.wC_ok cnd).1 (Pl.wC_ok cnd).2.1 (by omega),rfl⟩
 have HEt := hide (Pl.w_told (ru := ru) HT.out cnd)
 have HEu:Hid (∀ k,k < 4 -> _) := fun k hk=>Pl.w_upd (ru := ru) HT.out hk cnd
 have HEn:Hid (∀ k,k < 4 -> _) := fun k hk=>Pl.w_now (ru := ru) HT.out hk (Pl.wC cnd).t
 have HKt := hide (Pl.kw_told cnd)
 have HBo := hide (Pl.wC_bool cnd)
 generalize (Pl.wC cnd).x = x at *
 generalize (Pl.wC cnd).t = t at *
 clear hs7 hlv7 HS6 HL6 HV1 HEq HLr HHd HSg
 go_wp2_with fail
 refine (unhide HC).mono ?_
 rintro e w8 ⟨rfl,hb8⟩
 have HS8 := hide (HS7.out.trans (Stp.below _ hb8))
 have HL8 := hide (HL7.out.below hb8)
 clear hb8 HC HS7 HL7
 go_wp2_with fail
 refine ((unhide HPk) w8).mono ?_
 rintro e w8' ⟨rfl,hw8⟩
 rw [hw8]
 clear hw8 w8'
 have hk4:Pl.pickK by_ 4 < 4 := Nat.mod_lt _ (by omega)
 generalize Pl.pickK by_ 4 = k at *
 have HC := hide (rowsY HLex.out HMach.out HL8.out (by simp [Pl.xTold2]; omega) (ok_sel HSt.out (by omega) (by omega) HKt.out) HEt.out rfl)
 rw [<- s_told2] at HC
 have hdk:(Pl.dec k).length <= 20 := (Pl.dec_ok (n := k) (by omega)).2.2.2
 have HDg := hide (fun W=>digitsM k W (by omega))
 have HSu := hide (s_upd (Pl.dec k) x)
 go_wp2_with fail
 refine (unhide HC).mono ?_
 rintro e w9 ⟨v9,M9,lay9,rfl,hs9,hl9,hg9⟩
 obtain ⟨a9,c9,rfl⟩ := hg9.slice
 have HS9 := hide (HS8.out.trans hs9)
 have HL9 := hide hl9
 have HG9 := hide hg9
 clear hs9 hl9 hg9 HC HS8 HL8 HEt HKt
 go_wp2_with fail
 refine ((unhide HDg) _).mono ?_
 rintro e w10 ⟨rfl,hb10⟩
 have HS10 := hide (HS9.out.trans (Stp.below _ hb10))
 have HL10 := hide (HL9.out.below hb10)
 replace HG9 := hide (HG9.out.step (Stp.below _ hb10))
 clear hb10 HS9 HL9
 have HEu2 := hide (HEu.out k hk4)
 obtain ⟨su,hpu,hku⟩ := HPu.out k hk4
 have HOk:Hid (∀ D,ExecOk D (Pl.xUpd k x)) := fun D=>execOk_upd HUp.out hpu hku
 have hxu:(Pl.xUpd k x).length <= 600 := by simp [Pl.xUpd]; omega
 have HExu:Hid (∀ W M' lay,Live W M' bb lay (Pl.bTab rt ru) -> _) := fun W M' lay hl=>execK HLex.out HMach.out hl hxu (HOk.out _) HEu2.out
 unfold Pl.xUpd at HExu
 generalize Pl.dec k = dk at *
 rw [<- HSu.out] at HExu
 clear hpu hku HPu HEu HEu2 HOk hxu
 go_wp2_with fail
 refine ((unhide HDg) _).mono ?_
 rintro e w11 ⟨rfl,hb11⟩
 have HS11 := hide (HS10.out.trans (Stp.below _ hb11))
 have HL11 := hide (HL10.out.below hb11)
 replace HG9 := hide (HG9.out.step (Stp.below _ hb11))
 clear hb11 HS10 HL10 HDg
 have HC := hide (HExu.out _ _ _ HL11.out)
 clear HExu HSu
 go_wp2_with fail
 refine (unhide HC).mono ?_
 rintro e w12 ⟨rv12,M12,lay12,rfl,hs12,hl12,hg12⟩
 obtain ⟨a12,c12,rfl⟩ := hg12.slice
 generalize hny:(rt.filter (Pl.isYes t)).length = ny at *
 have HNy := hide hny
 clear hny
 have HS12:Hid (Stp w1 M1 (w12.alloc (.cells #[.slice a12 0 c12,.int .i64 (ny:Nat)] 36)) M12) := stp_box (HS11.out.trans hs12) _
 have HX12 := hide (Bx.new hl12 hg12 (ny:Nat))
 have HL12 := hide (live_box hl12 (.cells #[.slice a12 0 c12,.int .i64 (ny:Nat)] 36))
 replace HG9 := hide ((HG9.out.step hs12).step (Stp.below _ ((Below.refl _ _).alloc (Nat.le_refl _) (.cells #[.slice a12 0 c12,.int .i64 (ny:Nat)] 36))))
 clear hs12 hl12 hg12 HC HS11 HL11
 have hmn:(rt.map (Pl.newR k t)).length <= 19 := by rw [List.length_map]; omega
 have HC := hide (rowsY HLex.out HMach.out HL12.out (by decide) (ok_sel HSt.out hmn (by omega) Pl.k_all) (HEn.out k hk4) rfl)
 clear hmn
 go_wp2_with fail
 refine (unhide HC).mono ?_
 rintro e w13 ⟨v13,M13,lay13,rfl,hs13,hl13,hg13⟩
 obtain ⟨a13,c13,rfl⟩ := hg13.slice
 have HM9 := hide (HG9.out.step hs13).mato
 have HM13 := hide hg13.mato
 have hbx := (HX12.out.step hs13).blk
 have HBx := hide hbx
 have HBn := hide (HN.out _ _ (HS12.out.trans hs13))
 have hmap:(rt.map (fun r=>Pl.evV t r :: r)).length = rt.length := by simp
 have hmap2:(rt.map (Pl.newR k t)).length = rt.length := by simp
 rw [hmap] at *
 rw [hmap2] at *
 have hz0:((rt.length:Int) == 0) = false := by simp; rintro rfl; simp at hl1
 clear hs13 hl13 hg13 hbx HC HS12 HX12 HL12 HG9 HEn hmap hmap2
 go_wp2_with fail
 go_loopw [24,25] (fun s24 s25 wr=>∃ (i n:Nat),i <= rt.length /\ n <= i /\ s25 = .int .i64 (i:Nat) /\ s24 = .int .i64 (n:Nat) /\ Hid (Below w13.heap.size w13 wr /\ n = ((rt.take i).filter (Pl.isYes t)).length)) (fun _ a _=>rt.length - (intOf a).toNat)
 case atStart=>exact ⟨0,0,Nat.zero_le _,Nat.le_refl _,rfl,rfl,Below.refl _ _,by simp⟩
 case round =>
   obtain ⟨i,n,hi,hn,rfl,rfl,HI⟩ := hrel
   have hbI := HI.out.1
   by_cases hlt:i < rt.length
   · have hri:rt[i]? = some rt[i] := List.getElem?_eq_getElem hlt
     have hTr := HT.out _ (List.getElem_mem hlt)
     obtain ⟨_,_,e9,_,k9⟩ := HM9.out.below hbI
     obtain ⟨_,_,e13,_,k13⟩ := HM13.out.below hbI
     rw [List.length_map] at e9 e13
     cases e9
     cases e13
     obtain ⟨g9,o9,rfl,z9,m9⟩ := k9 (by intro e; rw [List.map_eq_nil_iff] at e; subst e; simp at hlt)
     obtain ⟨g13,o13,rfl,z13,m13⟩ := k13 (by intro e; rw [List.map_eq_nil_iff] at e; subst e; simp at hlt)
     obtain ⟨u9,d9,r9⟩ := m9 i (Pl.evV t rt[i] :: rt[i]) (by simp [hri])
     obtain ⟨u13,d13,r13⟩ := m13 i (Pl.newR k t rt[i]) (by simp [hri])
     have HTh := hide (Pl.three HBo.out hTr)
     have HTk:Hid (rt.take (i + 1) = rt.take i ++ [rt[i]]) := (List.take_append_getElem hlt).symm
     have HNr:Hid (Pl.newR k t rt[i] = if Pl.isYes t rt[i] = true then Pl.updR k rt[i] else rt[i]) := rfl
     have hTr2 := Pl.newR_t hk4 (t := t) hTr
     obtain ⟨va,vb,vc,hrow,hva,_⟩ := hTr
     rw [hrow] at r9 r13 HTh HTk HNr hTr2
     generalize Pl.evV t [va,vb,vc] = ve at *
     have hl3:(Pl.newR k t [va,vb,vc]).length = 3 := by obtain ⟨x,y,z,e,_⟩ := hTr2; rw [e]; rfl
     obtain ⟨h9,b9,rfl,y9,q0,q1,q2⟩ := r9.val (i := 0) (by simp)
     obtain ⟨_,_,e,_,q3,q4,q5⟩ := r9.val (i := 1) (by simp)
     cases e
     obtain ⟨_,_,e,_,q6,q7,q8⟩ := r9.val (i := 2) (by simp)
     cases e
     obtain ⟨_,_,e,_,q9,q10,q11⟩ := r9.val (i := 3) (by simp)
     cases e
     simp at q0 q1 q2 q3 q4 q5 q6 q7 q8 q9 q10 q11
     obtain ⟨h13,b13,e13⟩:∃ h b,u13 = .slice (some ⟨h,0,none⟩) 3 b := by
       obtain ⟨h,b,e,_⟩ := r13.val (i := 0) (by omega)
       rw [hl3] at e
       exact ⟨h,b,e⟩
     subst e13
     have HR13 := hide r13
     generalize hnew:Pl.newR k t [va,vb,vc] = nr at *
     have HNew := hide hnew
     clear m9 m13 k9 k13 hri hrow r9 r13 hnew hTr2
     go_upto_region 26 with fail
     go_cut [27] from 124 to 201 (fun s27 wx=>s27 = .slice (some ⟨wr.heap.size,0,none⟩) 3 3 /\ wx = (wr.alloc (.cells #[.int .i64 va.kind,.int .i64 va.n,.string ⟨va.s.toArray⟩,.int .i64 vb.kind,.int .i64 vb.n,.string ⟨vb.s.toArray⟩,.int .i64 vc.kind,.int .i64 vc.n,.string ⟨vc.s.toArray⟩] 34)).drew)
     case first =>
       go_region
       all_goals go_wp2_with fail
       all_goals go_meet
       all_goals exact ⟨rfl,rfl⟩
     case rest =>
       obtain ⟨rfl,hwc⟩ := hcut
       have hbW:Below wr.heap.size wr wc := by rw [hwc]; exact ((Below.refl _ _).alloc (Nat.le_refl _) _).drew
       have HX:Hid (wc.heap[wr.heap.size]? = some (.cells (rowC [va,vb,vc]).toArray 34)) := by unfold Hid; rw [hwc]; exact blk_new _ _
       clear hwc
       have HD13 := hide (And.intro z13 d13)
       have q0 := (hbW.cell (p := ⟨h9,0,none⟩) y9).trans q0
       have q1 := (hbW.cell (p := ⟨h9,1,none⟩) y9).trans q1
       have q3 := (hbW.cell (p := ⟨h9,3,none⟩) y9).trans q3
       have q4 := (hbW.cell (p := ⟨h9,4,none⟩) y9).trans q4
       have q5 := (hbW.cell (p := ⟨h9,5,none⟩) y9).trans q5
       have q6 := (hbW.cell (p := ⟨h9,6,none⟩) y9).trans q6
       have q7 := (hbW.cell (p := ⟨h9,7,none⟩) y9).trans q7
       have q8 := (hbW.cell (p := ⟨h9,8,none⟩) y9).trans q8
       have yy9:h9 < wc.heap.size := Nat.lt_of_lt_of_le y9 hbW.size
       have HBW := hide hbW
       clear hbW d9 z9 y9 q2 q9 q10 q11 hbI d13 z13
       generalize wc = Wa at *
       go_upto_region 27 with fail
       go_cut [158] from 124 to 201 (fun s158 wx=>s158 = .bool (Pl.isYes t [va,vb,vc]) /\ wx = Wa)
       case first =>
         rcases HTh.out with ⟨rfl,f1,f2,f3⟩ | ⟨rfl,f1,f2,f3⟩ | ⟨rfl,f1,f2,f3⟩
         · simp [Pl.nul] at q0 q1
           have HF2 := hide f2
           clear f1 f2 f3
           go_wp2_with fail
           go_meet
           exact ⟨by rw [HF2.out],rfl⟩
         · simp [Pl.tru] at q0 q1
           have HF2 := hide f2
           clear f1 f2 f3
           go_wp2_with fail
           go_meet
           exact ⟨by rw [HF2.out],rfl⟩
         · simp [Pl.tru] at q0 q1
           have HF2 := hide f2
           clear f1 f2 f3
           go_wp2_with fail
           go_meet
           exact ⟨by rw [HF2.out],rfl⟩
       case rest =>
       obtain ⟨rfl,hwc⟩ := hcut
       subst hwc
       clear q0 q1
       go_upto_if 158 with fail
       go_cut [24,27] from 124 to 201 (fun s24 s27 wx=>∃ (g n':Nat),s27 = .slice (some ⟨g,0,none⟩) 3 3 /\ s24 = .int .i64 (n':Nat) /\ n' <= i + 1 /\ Hid (Below wr.heap.size wr wx /\ RowsW wx wx.heap.size 3 vC nr (.slice (some ⟨g,0,none⟩) 3 3) /\ n' = ((rt.take (i + 1)).filter (Pl.isYes t)).length))
       case first =>
         cases hy:Pl.isYes t [va,vb,vc] with
         | false =>
           have HF:Hid (Below wr.heap.size wr wc /\ RowsW wc wc.heap.size 3 vC nr (.slice (some ⟨wr.heap.size,0,none⟩) 3 3) /\ n = ((rt.take (i + 1)).filter (Pl.isYes t)).length) := by
             refine ⟨HBW.out,?_,?_⟩
             · rw [HNr.out,if_neg (by simp [hy])]
               exact row_new HX.out rfl
             · rw [HTk.out,List.filter_append,HI.out.2]
               simp [hy]
           go_wp2_with fail
           go_meet
           exact ⟨_,n,rfl,rfl,by omega,HF.out⟩
         | true =>
           have HNn:Hid (n + 1 = ((rt.take (i + 1)).filter (Pl.isYes t)).length) := by
             unfold Hid
             rw [HTk.out,List.filter_append,HI.out.2]
             simp [hy]
           have HNu:Hid (nr = [Pl.nV k,vb,Pl.eqK k va]) := by
             unfold Hid
             rw [HNr.out,if_pos hy]
             rfl
           clear hy
           rcases hva with rfl | ⟨m,rfl,_,_⟩
           · have HF:Hid (Below wr.heap.size wr (wc.alloc (.cells (rowC [Pl.nV k,vb,Pl.nul]).toArray 34)) /\ RowsW (wc.alloc (.cells (rowC [Pl.nV k,vb,Pl.nul]).toArray 34)) (wc.alloc (.cells (rowC [Pl.nV k,vb,Pl.nul]).toArray 34)).heap.size 3 vC nr (.slice (some ⟨wc.heap.size,0,none⟩) 3 3)) := by
               refine ⟨HBW.out.alloc HBW.out.size _,?_⟩
               rw [HNu.out]
               exact row_new (blk_new _ _) rfl
             simp [Pl.nul] at q3 q4 q5
             go_wp2_with fail
             go_meet
             exact ⟨_,n + 1,rfl,by go_num,by omega,HF.out.1,HF.out.2,HNn.out⟩
           · by_cases hmk:m = (k:Int)
             · have hq:(m == (k:Int)) = true := by simp [hmk]
               have HF:Hid (Below wr.heap.size wr (wc.alloc (.cells (rowC [Pl.nV k,vb,Pl.tru true]).toArray 34)) /\ RowsW (wc.alloc (.cells (rowC [Pl.nV k,vb,Pl.tru true]).toArray 34)) (wc.alloc (.cells (rowC [Pl.nV k,vb,Pl.tru true]).toArray 34)).heap.size 3 vC nr (.slice (some ⟨wc.heap.size,0,none⟩) 3 3)) := by
                 refine ⟨HBW.out.alloc HBW.out.size _,?_⟩
                 rw [HNu.out,show Pl.eqK k (Pl.nV m) = Pl.tru (m == (k:Int)) from rfl,hq]
                 exact row_new (blk_new _ _) rfl
               simp [Pl.nV] at q3 q4 q5
               clear hmk
               go_wp2_with fail
               go_meet
               exact ⟨_,n + 1,rfl,by go_num,by omega,HF.out.1,HF.out.2,HNn.out⟩
             · have hq:(m == (k:Int)) = false := by simp [hmk]
               have HF:Hid (Below wr.heap.size wr (wc.alloc (.cells (rowC [Pl.nV k,vb,Pl.tru false]).toArray 34)) /\ RowsW (wc.alloc (.cells (rowC [Pl.nV k,vb,Pl.tru false]).toArray 34)) (wc.alloc (.cells (rowC [Pl.nV k,vb,Pl.tru false]).toArray 34)).heap.size 3 vC nr (.slice (some ⟨wc.heap.size,0,none⟩) 3 3)) := by
                 refine ⟨HBW.out.alloc HBW.out.size _,?_⟩
                 rw [HNu.out,show Pl.eqK k (Pl.nV m) = Pl.tru (m == (k:Int)) from rfl,hq]
                 exact row_new (blk_new _ _) rfl
               simp [Pl.nV] at q3 q4 q5
               clear hmk
               go_wp2_with fail
               go_meet
               exact ⟨_,n + 1,rfl,by go_num,by omega,HF.out.1,HF.out.2,HNn.out⟩
       case rest =>
         obtain ⟨g,n',rfl,rfl,hn',HF⟩ := hcut
         obtain ⟨hbF,hrF,hcF⟩ := HF.out
         have d13 := (hbF.cell (p := ⟨g13,o13 + i,none⟩) HD13.out.1).trans HD13.out.2
         have w13z:g13 < wc.heap.size := Nat.lt_of_lt_of_le HD13.out.1 hbF.size
         have hb1:Below wc.heap.size wc (wc.alloc (.cells #[.slice (some ⟨g,0,none⟩) 3 3] 32)) := (Below.refl _ _).alloc (Nat.le_refl _) _
         have hb2:Below (wc.alloc (.cells #[.slice (some ⟨g,0,none⟩) 3 3] 32)).heap.size (wc.alloc (.cells #[.slice (some ⟨g,0,none⟩) 3 3] 32)) ((wc.alloc (.cells #[.slice (some ⟨g,0,none⟩) 3 3] 32)).alloc (.cells #[.slice (some ⟨h13,0,none⟩) 3 b13] 32)) := (Below.refl _ _).alloc (Nat.le_refl _) _
         have hm1 := mato_one (r := nr) (k := wc.heap.size) (h := g) (b := 3) (W := (wc.alloc (.cells #[.slice (some ⟨g,0,none⟩) 3 3] 32)).alloc (.cells #[.slice (some ⟨h13,0,none⟩) 3 b13] 32)) (by rw [hl3]; exact (hb2.block _ (by simp)).trans (blk_new _ _)) (by rw [hl3]; exact (hrF.below hb1).below hb2)
         have hm2 := mato_one (r := nr) (k := wc.heap.size + 1) (h := h13) (b := b13) (W := (wc.alloc (.cells #[.slice (some ⟨g,0,none⟩) 3 3] 32)).alloc (.cells #[.slice (some ⟨h13,0,none⟩) 3 b13] 32)) (by rw [hl3]; exact blk_new' _ _ _ (by simp)) (by rw [hl3]; exact ((HR13.out.below hbF).below hb1).below hb2)
         have HC := hide (sameY [nr] _ _ _ hm1 hm2 (by simp) (by simp [hl3]))
         have HB2 := hide ((hbF.trans (hb1.mono hbF.size)).trans (hb2.mono (by have := hbF.size; simp; omega)))
         have HCF := hide hcF
         have HBI := hide HI.out.1
         clear hm1 hm2 hb1 hb2 hbF hrF hcF HF HI HTk HNr HNew HTh HX HBW HR13
         go_wp2_with fail
         refine (unhide HC).mono ?_
         rintro e w14 ⟨rfl,hb14⟩
         have HJ:Hid (Below w13.heap.size w13 w14 /\ n' = ((rt.take (i + 1)).filter (Pl.isYes t)).length) := ⟨(HBI.out.trans (HB2.out.mono HBI.out.size)).trans (hb14.mono (by have := HB2.out.size; have := HBI.out.size; omega)),HCF.out⟩
         clear hb14 HC HCF HB2 HBI
         go_wp2_with fail
         go_roundw
         case rel=>exact ⟨i + 1,n',by omega,hn',by go_num,rfl,HJ.out⟩
         case measure=>simp [intOf]; omega
   · obtain rfl:i = rt.length := by omega
     have hcn:n = ny := by
       have := HI.out.2
       rw [List.take_length,HNy.out] at this
       exact this
     subst hcn
     have hb := (hbI.block _ (lt_of_blk HBx.out)).trans HBx.out
     have x1 := blk_cell hb 1
     simp at x1
     have xz := lt_of_blk hb
     have HE := hide (HBn.out.trans (hbI.mono (by have := HBn.out.size; rw [HBB.out] at this; exact this)))
     clear hb hbI HI
     go_wp2_with fail
     go_ret
     exact ⟨rfl,by rw [HBB.out]; exact HE.out⟩
end Go.Proofs.YtojdpjpldokjmaaGreatDoor
