/- The keep Ordered: the walk. -/
import Derived.Test.YtojdpjpldokjmaaGreatDoorO23
import Derived.BigQuiet
import Derived.WalkSmall
set_option maxHeartbeats 60000000
set_option maxRecDepth 100000
namespace Go.Proofs.YtojdpjpldokjmaaGreatDoor
open Go.RowKit Go.Deep
set_option linter.unusedSimpArgs false
set_option linter.unusedVariables false
theorem execOk_ord (HS:StableM 19 600) (HO:OnceM) {D:Pl.DB} {t:List UInt8} {s:Pl.St} (hp:Pl.pParse t = some s) (hk:s.kind = 115) (hl:s.sources.length = 1) (hm:∀ t ∈ D,t.rows.length <= 19):ExecOk D t :=
 ExecOk.of hp ⟨fun e=>absurd (hk.symm.trans e) (by decide),fun _=>⟨19,600,HS,by omega,fun is rows hj=>by
   have := Pl.joinsAll_len hm (by omega) hj
   rw [hl] at this
   simpa using this,fun _=>HO,(Pl.parse_ok hp).klen⟩⟩
theorem s_up (x:List UInt8):({ data := #[83,69,76,69,67,84,32,42,32,70,82,79,77,32,116,32,79,82,68,69,82,32,66,89,32] }:ByteArray) ++ { data := x.toArray } = ⟨([83,69,76,69,67,84,32,42,32,70,82,79,77,32,116,32,79,82,68,69,82,32,66,89,32] ++ x).toArray⟩ := cat2 _ x
theorem s_down (x:List UInt8):(({ data := #[83,69,76,69,67,84,32,42,32,70,82,79,77,32,116,32,79,82,68,69,82,32,66,89,32] }:ByteArray) ++ { data := x.toArray }) ++ { data := #[32,68,69,83,67] } = ⟨([83,69,76,69,67,84,32,42,32,70,82,79,77,32,116,32,79,82,68,69,82,32,66,89,32] ++ x ++ [32,68,69,83,67]).toArray⟩ := cat3 _ x _
theorem s_part (x a b:List UInt8):((((({ data := #[83,69,76,69,67,84,32,42,32,70,82,79,77,32,116,32,79,82,68,69,82,32,66,89,32] }:ByteArray) ++ { data := x.toArray }) ++ { data := #[32,76,73,77,73,84,32] }) ++ { data := a.toArray }) ++ { data := #[32,79,70,70,83,69,84,32] }) ++ { data := b.toArray } = ⟨([83,69,76,69,67,84,32,42,32,70,82,79,77,32,116,32,79,82,68,69,82,32,66,89,32] ++ x ++ [32,76,73,77,73,84,32] ++ a ++ [32,79,70,70,83,69,84,32] ++ b).toArray⟩ := by
 rw [s_up]
 exact (congrArg (· ++ (⟨b.toArray⟩:ByteArray)) ((congrArg (· ++ (⟨_⟩:ByteArray)) (cat3 _ [32,76,73,77,73,84,32] a)).trans (cat2 _ [32,79,70,70,83,69,84,32]))).trans (cat2 _ b)
theorem s_once (x:List UInt8):((({ data := #[83,69,76,69,67,84,32,68,73,83,84,73,78,67,84,32] }:ByteArray) ++ { data := x.toArray }) ++ { data := #[32,70,82,79,77,32,116,32,79,82,68,69,82,32,66,89,32] }) ++ { data := x.toArray } = ⟨([83,69,76,69,67,84,32,68,73,83,84,73,78,67,84,32] ++ x ++ [32,70,82,79,77,32,116,32,79,82,68,69,82,32,66,89,32] ++ x).toArray⟩ :=
 (congrArg (· ++ (⟨x.toArray⟩:ByteArray)) (cat3 [83,69,76,69,67,84,32,68,73,83,84,73,78,67,84,32] x [32,70,82,79,77,32,116,32,79,82,68,69,82,32,66,89,32])).trans (cat2 _ x)
theorem cX_len {k:Nat} (hk:k < 3):(Pl.cX k).length <= 3 := by
 match k,hk with
 | 0,_=>decide
 | 1,_=>decide
 | 2,_=>decide
theorem dec_len9 {n:Nat} (h:n < 9):(Pl.dec n).length <= 1 := by
 match n,h with
 | 0,_=>decide | 1,_=>decide | 2,_=>decide | 3,_=>decide | 4,_=>decide | 5,_=>decide | 6,_=>decide | 7,_=>decide | 8,_=>decide
theorem ent_before (vs:Array Value) (w:World):(callFunc 26 vs).run Tryz.prog w = .ok (.enter 26 vs) w := by
 have h1:(Tryz.f26.name == "runtime.NumGoroutine") = false := by kernel_rfl
 have h2 : Tryz.f26.body.isNone = false := by kernel_rfl
 have h1':¬ Tryz.f26.name = "runtime.NumGoroutine" := by simpa using h1
 have h2':¬ Tryz.f26.body = none := by intro e; rw [e] at h2; cases h2
 simp [callFunc,go_sem,Tryz.func26,h1',h2']
def ordA:PSigma fun G:Prop=>(Hid G -> ∀ (L:LexLib) (X:MachLib) (HS:StableM 19 600) (HO:OnceM) (raw:List Int) (cn li of:Int) (v1:Value) (w:World) (h1:IntsAt w raw v1) (hr1:∀ x ∈ raw,Pl.in64 x) (hcn:Pl.in64 cn) (hli:Pl.in64 li) (hof:Pl.in64 of) (hg:Globs w),
   Calls Tryz.prog 7 #[v1,.int .i64 cn,.int .i64 li,.int .i64 of] w fun e w' => e = .returned (.bool true) /\ Below w.heap.size w w') := by
 apply PSigma.mk
 case snd =>
 intro hG L X HS HO raw cn li of v1 w h1 hr1 hcn hli hof hg
 have HSt := hide HS
 have HOt := hide HO
 have HLex := hide L
 have HMach := hide X
 have HB := hide (baseM L X raw v1 w h1 hr1 hg)
 have HPk := hide (fun W=>pickM cn 3 W hcn (by omega) (by omega))
 have HPn := hide (fun W=>pickM li 9 W hli (by omega) (by omega))
 have HPm := hide (fun W=>pickM of 9 W hof (by omega) (by omega))
 have HT := hide (Pl.base_t raw)
 obtain ⟨hl8,hl7,hl1⟩ := Pl.base_len raw
 have HD:Hid (Pl.baseDb raw = Pl.bTab (Pl.baseRows raw).1 (Pl.baseRows raw).2) := rfl
 generalize Pl.baseDb raw = D at *
 generalize (Pl.baseRows raw).1 = rt at *
 generalize (Pl.baseRows raw).2 = ru at *
 have HM8:Hid (∀ t ∈ Pl.bTab rt ru,t.rows.length <= 19) := fun t ht=>by
   simp [Pl.bTab] at ht
   rcases ht with rfl | rfl
   · exact Nat.le_trans hl8 (by omega)
   · exact Nat.le_trans hl7 (by omega)
 obtain ⟨a1,c1,rfl,hri⟩ := h1
 clear hri
 clear hg hr1 HS HO L X hcn hli hof
 go_enter Tryz.func7,Tryz.ntmps7
 go_wp2_with fail
 refine (unhide HB).mono ?_
 rintro e w1 ⟨rfl,hb1,M1,lay1,hl1',hM1⟩
 rw [HD.out] at hl1'
 have HL1 := hide hl1'
 have HN:Hid (∀ W M',Stp w1 M1 W M' -> Below w.heap.size w W) := fun W M' h=>stp_own hb1 hM1 h hb1.size
 generalize hbb:w.heap.size = bb at *
 have HBB := hide hbb
 clear hbb hl1' hM1 hb1 HB HD
 have hk3:Pl.pickK cn 3 < 3 := Nat.mod_lt _ (by omega)
 have hn9:Pl.pickK li 9 < 9 := Nat.mod_lt _ (by omega)
 have hm9:Pl.pickK of 9 < 9 := Nat.mod_lt _ (by omega)
 go_wp2_with fail
 refine ((unhide HPk) _).mono ?_
 rintro e w2 ⟨rfl,rfl⟩
 generalize Pl.pickK cn 3 = k at *
 generalize Pl.pickK li 9 = n at *
 generalize Pl.pickK of 9 = m at *
 go_upto_region 5 with fail
 go_cut [11] (fun s11 wx=>s11 = .string ⟨(Pl.cX k).toArray⟩ /\ Hid (Below w2.heap.size w2 wx))
 case first =>
   have HBa:Hid (∀ o,Below w2.heap.size w2 (w2.alloc o)) := fun o=>(Below.refl _ _).alloc (Nat.le_refl _) _
   obtain rfl | rfl | rfl:k = 0 \/ k = 1 \/ k = 2 := by omega
   all_goals
     go_wp2_with fail
     go_meet
     exact ⟨rfl,HBa.out _⟩
 case rest =>
   obtain ⟨rfl,HB2⟩ := hcut
   have HL2 := hide (HL1.out.below HB2.out)
   have HS2:Hid (Stp w2 M1 wc M1) := Stp.below _ HB2.out
   go_wp2_with fail
   refine ((unhide HPn) _).mono ?_
   rintro e w3 ⟨rfl,rfl⟩
   go_wp2_with fail
   refine ((unhide HPm) _).mono ?_
   rintro e w4 ⟨rfl,rfl⟩
   clear HPk HPn HPm HB2 HL1
   have hxl := cX_len hk3
   have hnl := dec_len9 hn9
   have hml := dec_len9 hm9
   have HPu:Hid (ExecOk (Pl.bTab rt ru) (Pl.xUp k)) := execOk_ord HSt.out HOt.out (Pl.p_up hk3) rfl rfl HM8.out
   have HPd:Hid (ExecOk (Pl.bTab rt ru) (Pl.xDown k)) := execOk_ord HSt.out HOt.out (Pl.p_down hk3) rfl rfl HM8.out
   have HPp:Hid (ExecOk (Pl.bTab rt ru) (Pl.xPart k n m)) := execOk_ord HSt.out HOt.out (Pl.p_part hk3 hn9 hm9) rfl rfl HM8.out
   have HPo:Hid (ExecOk (Pl.bTab rt ru) (Pl.xOnce k)) := execOk_ord HSt.out HOt.out (Pl.p_once hk3) rfl rfl HM8.out
   have HEu := hide (Pl.x_up (ru := ru) HT.out hk3)
   have HEd := hide (Pl.x_down (ru := ru) HT.out hk3)
   have HEp := hide (Pl.x_part (ru := ru) HT.out hk3 hn9 hm9)
   have HEo := hide (Pl.x_once (ru := ru) HT.out hk3)
   rw [Pl.once_up hk3 HT.out] at HEo
   unfold Pl.xPart at HPp HEp
   unfold Pl.xDown at HPd HEd
   unfold Pl.xUp at HPu HEu HPd HEd HPp HEp
   unfold Pl.xOnce at HPo HEo
   have HDn:Hid (∀ W,_) := fun W=>digitsM n W (by omega)
   have HDm:Hid (∀ W,_) := fun W=>digitsM m W (by omega)
   generalize Pl.cX k = x at *
   generalize Pl.dec n = xn at *
   generalize Pl.dec m = xm at *
   have hz0:((rt.length:Int) == 0) = false := by simp; rintro rfl; simp at hl1
   have HC := hide (rowsY HLex.out HMach.out HL2.out (by decide) (ok_sel HSt.out (by omega) (by omega) Pl.k_all) (Pl.all_exec (ru := ru) HT.out) rfl)
   go_wp2_with fail
   refine (unhide HC).mono ?_
   rintro e w5 ⟨v5,M5,lay5,rfl,hs5,hl5,hg5⟩
   obtain ⟨a5,c5,rfl⟩ := hg5.slice
   have HS5 := hide (HS2.out.trans hs5)
   have HL5 := hide hl5
   have HG5 := hide hg5
   clear hs5 hl5 hg5 HC HS2 HL2
   have HC := hide (rowsY HLex.out HMach.out HL5.out (by simp; omega) HPu.out HEu.out rfl)
   rw [<- s_up] at HC
   go_wp2_with fail
   refine (unhide HC).mono ?_
   rintro e w6 ⟨v6,M6,lay6,rfl,hs6,hl6,hg6⟩
   obtain ⟨a6,c6,rfl⟩ := hg6.slice
   rw [Pl.ups_len] at hg6 ⊢
   have HS6 := hide (HS5.out.trans hs6)
   have HL6 := hide hl6
   have HG6 := hide hg6
   replace HG5 := hide (HG5.out.step hs6)
   clear hs6 hl6 hg6 HC HS5 HL5 HPu HEu
   have HC := hide (rowsY HLex.out HMach.out HL6.out (by simp; omega) HPd.out HEd.out rfl)
   rw [<- s_down] at HC
   go_wp2_with fail
   refine (unhide HC).mono ?_
   rintro e w7 ⟨v7,M7,lay7,rfl,hs7,hl7x,hg7⟩
   obtain ⟨a7,c7,rfl⟩ := hg7.slice
   rw [Pl.downs_len] at hg7 ⊢
   have HS7 := hide (HS6.out.trans hs7)
   have HL7 := hide hl7x
   have HG7 := hide hg7
   replace HG5 := hide (HG5.out.step hs7)
   replace HG6 := hide (HG6.out.step hs7)
   clear hs7 hl7x hg7 HC HS6 HL6 HPd HEd
   go_wp2_with fail
   refine ((unhide HDn) _).mono ?_
   rintro e w8 ⟨rfl,hb8⟩
   have HS8 := hide (HS7.out.trans (Stp.below M7 hb8))
   have HL8 := hide (HL7.out.below hb8)
   replace HG5 := hide (HG5.out.step (Stp.below M7 hb8))
   replace HG6 := hide (HG6.out.step (Stp.below M7 hb8))
   replace HG7 := hide (HG7.out.step (Stp.below M7 hb8))
   clear hb8 HS7 HL7 HDn
   go_wp2_with fail
   refine ((unhide HDm) _).mono ?_
   rintro e w9 ⟨rfl,hb9⟩
   have HS9 := hide (HS8.out.trans (Stp.below M7 hb9))
   have HL9 := hide (HL8.out.below hb9)
   replace HG5 := hide (HG5.out.step (Stp.below M7 hb9))
   replace HG6 := hide (HG6.out.step (Stp.below M7 hb9))
   replace HG7 := hide (HG7.out.step (Stp.below M7 hb9))
   clear hb9 HS8 HL8 HDm
   have HC := hide (rowsY HLex.out HMach.out HL9.out (by simp; omega) HPp.out HEp.out rfl)
   rw [<- s_part] at HC
   go_wp2_with fail
   refine (unhide HC).mono ?_
   rintro e w10 ⟨v10,M10,lay10,rfl,hs10,hl10,hg10⟩
   obtain ⟨a10,c10,rfl⟩ := hg10.slice
   generalize ((Pl.ups k rt |>.drop m).take n).length = n10 at hg10 ⊢
   have HS10 := hide (HS9.out.trans hs10)
   have HL10 := hide hl10
   have HG10 := hide hg10
   replace HG5 := hide (HG5.out.step hs10)
   replace HG6 := hide (HG6.out.step hs10)
   replace HG7 := hide (HG7.out.step hs10)
   clear hs10 hl10 hg10 HC HS9 HL9 HPp HEp
   have HC := hide (rowsY HLex.out HMach.out HL10.out (by simp; omega) HPo.out HEo.out rfl)
   rw [<- s_once] at HC
   go_wp2_with fail
   refine (unhide HC).mono ?_
   rintro e w11 ⟨v11,M11,lay11,rfl,hs11,hl11,hg11⟩
   obtain ⟨a11,c11,rfl⟩ := hg11.slice
   have HNo:Hid (((Pl.adj none (Pl.colU k rt)).map (fun v=>[v])).length = (Pl.adj none (Pl.colU k rt)).length) := by unfold Hid; simp
   rw [HNo.out] at hg11 ⊢
   have HBw := hide (HN.out _ _ (HS10.out.trans hs11))
   have HM5 := hide (HG5.out.step hs11).mato
   have HM6o := hide (HG6.out.step hs11).mato
   have HM7o := hide (HG7.out.step hs11).mato
   have HM6 := hide (HG6.out.step hs11).matc
   have HM7 := hide (HG7.out.step hs11).matc
   have HM10 := hide (HG10.out.step hs11).mato
   have HM11 := hide hg11.matc
   have hno:(Pl.adj none (Pl.colU k rt)).length <= 8 := by
     have h1 := Pl.adj_len none (Pl.colU k rt)
     rw [Pl.colU_len] at h1
     omega
   generalize hNN:(Pl.adj none (Pl.colU k rt)).length = N at *
   have HNN := hide hNN
   clear hNN hs11 hl11 hg11 HC HS10 HL10 HG5 HG6 HG7 HG10 HPo HEo HLex HMach HSt HOt HN HM8 HNo
   go_upto_region 13 with fail
   go_cut [132] from 37 to 132 (fun s132 wx=>s132 = .bool false /\ wx = w11)
   case first =>
     go_wp2_with fail
     go_meet
     exact ⟨rfl,rfl⟩
   case rest =>
     obtain ⟨rfl,hwc⟩ := hcut
     have hwc' := hwc.symm
     subst hwc'
     go_wp2_with fail
     rename_i K0 hK0
     clear hwc
     revert raw cn li of w D rt ru a1 c1 M1 lay1 bb w2 k n m w4 x xn xm w5 M5 lay5 a5 c5 w6 M6 lay6 a6 c6 w7 M7 lay7 a7 c7 w8 w9 w10 M10 lay10 a10 c10 n10 w11 M11 lay11 a11 c11 N K0 u37 u38 u39 u40 u41 u42 u43 u44 u45 u46 u47 u48 u49 u50 u51 u52 u53 u54 u55 u56 u57 u58 u59 u60 u61 u62 u63 u64 u65 u66 u67 u68 u69 u70 u71 u72 u73 u74 u75 u76 u77 u78 u79 u80 u81 u82 u83 u84 u85 u86 u87 u88 u89 u90 u91 u92 u93 u94 u95 u96 u97 u98 u99 u100 u101 u102 u103 u104 u105 u106 u107 u108 u109 u110 u111 u112 u113 u114 u115 u116 u117 u118 u119 u120 u121 u122 u123 u124 u125 u126 u127 u128 u129 u130 u131 u132 u133 u134 u135 u136 u137 u138 u139 u140 u141 u142 u143 u144 u145 u146 u147 u148 u149 u150 u151 u152 u153 u154 u155 u156 u157 u158 u159 u160 u161 u162 u163 u164 u165 u166 u167 u168 u169 u170 u171 u172 u173 u174 u175 u176 u177 u178 u179 u180 u181 u182 u183 u184 u185 u186 u187 u188 u189 u190 u191 u192 u193 u194 u195 u196 u197 u198 u199 u200 u201 u202 u203 u204 u205 u206 u207 u208 u209 u210 u211 u212 u213 u214 u215 u216 u217 u218 u219 u220 u221 u222 u223 u224 u225 u226 u227 u228 u229 u230 u231 u232 u233 u234 u235 u236 u237 u238 u239 u240 u241 u242 u243 u244 u245 u246 u247 u248 u249 u250 u251 u252 u253 u254 u255 u256 u257 u258 u259 u260 u261 u262 u263 u264 u265 u266 u267 u268 u269 u270 u271 u272 u273 u274 u275 u276 u277 u278 u279 u280 u281 u282 u283 u284 u285 u286 u287
     exact hG.out
def ordB:PSigma fun G:Prop=>(Hid G -> ordA.1) := by
 apply PSigma.mk
 case snd =>
 intro hG
 delta ordA
 unhygienic
   intro raw
   intros
 go_loopw [24,25] (fun s24 s25 wr=>∃ (i f:Nat),i <= rt.length /\ s25 = .int .i64 (i:Nat) /\ s24 = .int .i64 (f:Nat) /\ f <= 8 /\ Hid (f = Pl.foundN (Pl.colU k rt) i /\ Below w11.heap.size w11 wr)) (fun _ b _=>rt.length - (intOf b).toNat)
 case atStart=>exact ⟨0,0,Nat.zero_le _,rfl,rfl,by omega,by simp [Pl.foundN,Pl.adj],Below.refl _ _⟩
 case round =>
   obtain ⟨i,f,hi,rfl,rfl,hf8,HI⟩ := hrel
   have hbI := HI.out.2
   have hzI := hbI.size
   by_cases hlt:i < rt.length
   · have hltu:i < (Pl.ups k rt).length := by rw [Pl.ups_len]; exact hlt
     have hltd:i < (Pl.downs k rt).length := by rw [Pl.downs_len]; exact hlt
     have HRu:Hid ((Pl.ups k rt)[i]? = some (Pl.ups k rt)[i]) := List.getElem?_eq_getElem hltu
     have HRd:Hid ((Pl.downs k rt)[i]? = some (Pl.downs k rt)[i]) := List.getElem?_eq_getElem hltd
     have HTu := hide (Pl.ups_row (k := k) HT.out _ (List.getElem_mem hltu))
     have HTd := hide (Pl.downs_row (k := k) HT.out _ (List.getElem_mem hltd))
     generalize (Pl.ups k rt)[i] = r at *
     generalize (Pl.downs k rt)[i] = rd at *
     clear hltu hltd
     have hr3:r.length = 3 := by obtain ⟨_,_,_,e,_⟩ := HTu.out; rw [e]; rfl
     have hd3:rd.length = 3 := by obtain ⟨_,_,_,e,_⟩ := HTd.out; rw [e]; rfl
     obtain ⟨g6,ua6,uc6,rfl,z6,d6,_,r6⟩ := HM6.out.get hbI HRu.out
     obtain ⟨g7,ua7,uc7,rfl,z7,d7,_,r7⟩ := HM7.out.get hbI HRd.out
     obtain ⟨gv,cv,ev,yv,t0,t1,t2⟩ := r6.val (i := k) (by omega)
     cases ev
     rw [hr3] at d6
     rw [hd3] at d7
     have HCu := hide (Pl.colU_at (k := k) HRu.out)
     unfold Pl.colV at HCu
     generalize r.getD k Pl.nul = vv at *
     have HLr:Hid (∀ q ∈ rt,q.length <= 1000 /\ k < q.length) := fun q hq=>by
       obtain ⟨_,_,_,e,_⟩ := HT.out q hq
       rw [e]
       exact ⟨by simp,by simp; omega⟩
     have HH1:Hid (∀ W,Below wr.heap.size wr W -> Calls Tryz.prog 24 #[.slice a5 rt.length c5,.int .i64 (k:Nat),.agg #[.int .i64 vv.kind,.int .i64 vv.n,.string ⟨vv.s.toArray⟩]] W fun e w' => Below W.heap.size W w' /\ ∃ v,e = .returned v /\ MatO w' (rt.filter (Pl.hasV k vv)) v) := fun W hb =>
       havM rt _ k vv W ((HM5.out.below HI.out.2).below hb) (by omega) HLr.out
     have HH2:Hid (∀ W,Below wr.heap.size wr W -> Calls Tryz.prog 24 #[.slice (some ⟨g6,0,none⟩) rt.length c6,.int .i64 (k:Nat),.agg #[.int .i64 vv.kind,.int .i64 vv.n,.string ⟨vv.s.toArray⟩]] W fun e w' => Below W.heap.size W w' /\ ∃ v,e = .returned v /\ MatO w' (rt.filter (Pl.hasV k vv)) v) := fun W hb=>by
       rw [<- Pl.ups_has k vv rt]
       exact havM (Pl.ups k rt) _ k vv W ((HM6o.out.below HI.out.2).below hb) (by rw [Pl.ups_len]; omega) (fun q hq=>HLr.out q (Pl.isort_mem hq))
     have HH3:Hid (∀ W,Below wr.heap.size wr W -> Calls Tryz.prog 24 #[.slice (some ⟨g7,0,none⟩) rt.length c7,.int .i64 (k:Nat),.agg #[.int .i64 vv.kind,.int .i64 vv.n,.string ⟨vv.s.toArray⟩]] W fun e w' => Below W.heap.size W w' /\ ∃ v,e = .returned v /\ MatO w' (rt.filter (Pl.hasV k vv)) v) := fun W hb=>by
       rw [<- Pl.downs_has k vv rt]
       exact havM (Pl.downs k rt) _ k vv W ((HM7o.out.below HI.out.2).below hb) (by rw [Pl.downs_len]; omega) (fun q hq=>HLr.out q (Pl.isort_mem hq))
     have HSm:Hid (∀ W u1 u2,MatO W (rt.filter (Pl.hasV k vv)) u1 -> MatO W (rt.filter (Pl.hasV k vv)) u2 -> Calls Tryz.prog 25 #[u1,u2] W fun e w' => e = .returned (.bool true) /\ Below W.heap.size W w') := fun W u1 u2 h1 h2 =>
       sameY _ u1 u2 W h1 h2 (Nat.le_trans (List.length_filter_le _ _) (by omega)) (fun q hq=>(HLr.out q (List.mem_filter.1 hq).1).1)
     generalize rt.filter (Pl.hasV k vv) = F at *
     have HR6 := hide r6
     clear r6 r7 HLr HM5 HM10 HM7 hbI
     go_upto_region 22 with fail
     have hb12:Below wr.heap.size wr (wr.alloc (.cells #[.int .i64 vv.kind,.int .i64 vv.n,.string ⟨vv.s.toArray⟩] 34)) := (Below.refl _ _).alloc (Nat.le_refl _) _
     have hx12 := blk_new wr (.cells #[.int .i64 vv.kind,.int .i64 vv.n,.string ⟨vv.s.toArray⟩] 34)
     generalize wr.alloc (.cells #[.int .i64 vv.kind,.int .i64 vv.n,.string ⟨vv.s.toArray⟩] 34) = w12 at *
     have hxz := lt_of_blk hx12
     have b0 := blk_cell hx12 0
     have b1 := blk_cell hx12 1
     have b2 := blk_cell hx12 2
     simp at b0 b1 b2
     have HB12 := hide hb12
     have HX12 := hide hx12
     have T0 := hide t0
     have T1 := hide t1
     have T2 := hide t2
     have D6 := hide d6
     have D7 := hide d7
     clear hb12 hx12 t0 t1 t2 d6 d7
     go_wp2_with fail
     refine ((unhide HH1) _ HB12.out).mono ?_
     rintro e w13 ⟨hb13,v13,rfl,hm13⟩
     have HM13 := hide hm13
     obtain ⟨a13,c13,rfl,_,_⟩ := hm13
     have hx13 := below_blk hb13 hxz HX12.out
     have HB13 := hide (HB12.out.trans (hb13.mono HB12.out.size))
     have HX13 := hide hx13
     clear b0 b1 b2 hxz
     have hxz := lt_of_blk hx13
     have b0 := blk_cell hx13 0
     have b1 := blk_cell hx13 1
     have b2 := blk_cell hx13 2
     simp at b0 b1 b2
     clear hb13 hx13 HB12 HX12 HH1
     go_wp2_with fail
     refine ((unhide HH2) _ HB13.out).mono ?_
     rintro e w14 ⟨hb14,v14,rfl,hm14⟩
     have HM14 := hide hm14
     obtain ⟨a14,c14,rfl,_,_⟩ := hm14
     have hx14 := below_blk hb14 hxz HX13.out
     have HB14 := hide (HB13.out.trans (hb14.mono HB13.out.size))
     have HX14 := hide hx14
     replace HM13 := hide (HM13.out.below hb14)
     clear b0 b1 b2 hxz
     have hxz := lt_of_blk hx14
     have b0 := blk_cell hx14 0
     have b1 := blk_cell hx14 1
     have b2 := blk_cell hx14 2
     simp at b0 b1 b2
     clear hb14 hx14 HB13 HX13 HH2
     go_wp2_with fail
     refine ((unhide HH3) _ HB14.out).mono ?_
     rintro e w15 ⟨hb15,v15,rfl,hm15⟩
     have HM15 := hide hm15
     obtain ⟨a15,c15,rfl,_,_⟩ := hm15
     have hx15 := below_blk hb15 hxz HX14.out
     have HB15 := hide (HB14.out.trans (hb15.mono HB14.out.size))
     have HX15 := hide hx15
     replace HM13 := hide (HM13.out.below hb15)
     replace HM14 := hide (HM14.out.below hb15)
     clear b0 b1 b2 hxz hb15 hx15 HB14 HX14 HH3
     have HC := hide (HSm.out _ _ _ HM13.out HM14.out)
     go_wp2_with fail
     refine (unhide HC).mono ?_
     rintro e w16 ⟨rfl,hb16⟩
     have HB16 := hide (HB15.out.trans (hb16.mono HB15.out.size))
     have HX16 := hide (below_blk hb16 (lt_of_blk HX15.out) HX15.out)
     have HC2 := hide (HSm.out _ _ _ (HM13.out.below hb16) (HM15.out.below hb16))
     clear hb16 HB15 HX15 HM13 HM14 HM15 HC HSm
     go_wp2_with fail
     refine (unhide HC2).mono ?_
     rintro e w17 ⟨rfl,hb17⟩
     have hB17 := HB16.out.trans (hb17.mono HB16.out.size)
     have hx17 := below_blk hb17 (lt_of_blk HX16.out) HX16.out
     have hxz := lt_of_blk hx17
     have b0 := blk_cell hx17 0
     have b1 := blk_cell hx17 1
     have b2 := blk_cell hx17 2
     simp at b0 b1 b2
     have hz17 := hB17.size
     have z6' := Nat.lt_of_lt_of_le z6 hz17
     have d6 := (hB17.cell (p := ⟨g6,i,none⟩) z6).trans D6.out
     have HB17 := hide hB17
     have hnq := neq_run
     have heq := eql_run
     have HE:Hid (Below w11.heap.size w11 w17) := HI.out.2.trans (HB17.out.mono HI.out.2.size)
     clear hb17 hx17 HB16 HX16 HC2 D7 z7
     go_upto_region 29 with fail
     have HNew:Hid ((i = 0 \/ ∃ u,(Pl.colU k rt)[i - 1]? = some u /\ u ≠ vv) -> Pl.foundN (Pl.colU k rt) (i + 1) = f + 1 /\ ∃ g11 c11',a11 = some ⟨g11,0,none⟩ /\ f < N /\ g11 < w17.heap.size /\ ∃ go co,go < w17.heap.size /\ w17.cell? ⟨g11,f,none⟩ = some (.slice (some ⟨go,0,none⟩) 1 co) /\ w17.cell? ⟨go,0,none⟩ = some (.int .i64 vv.kind) /\ w17.cell? ⟨go,1,none⟩ = some (.int .i64 vv.n) /\ w17.cell? ⟨go,2,none⟩ = some (.string ⟨vv.s.toArray⟩)) := fun hu=>by
       obtain ⟨h1,h2⟩ := Pl.found_no HCu.out hu
       rw [<- HI.out.1] at h1 h2
       have hm:((Pl.adj none (Pl.colU k rt)).map (fun v=>[v]))[f]? = some [vv] := by rw [List.getElem?_map,h2]; rfl
       obtain ⟨g11,ua,uc,e,z11,d11,_,r11⟩ := HM11.out.get HE.out hm
       obtain ⟨go,co,e2,yo,s0,s1,s2⟩ := r11.val (i := 0) (by simp)
       cases e2
       have hfN:f < N := by rw [<- HNN.out]; exact (List.getElem?_eq_some_iff.1 h2).1
       exact ⟨h1,g11,c11,e,hfN,z11,go,_,yo,d11,by simpa using s0,by simpa using s1,by simpa using s2⟩
     have HSt:Hid (∀ u j,(Pl.colU k rt)[j]? = some u -> i = j + 1 -> (u = vv -> Pl.foundN (Pl.colU k rt) (i + 1) = f)) := fun u j hu hij e=>by
       have h2 := HCu.out
       subst hij
       subst e
       rw [Pl.found_yes hu h2,<- HI.out.1]
     go_cut [197] from 133 to 221 (fun s197 wx=>∃ (bb2:Bool) (nq:Nat),s197 = .bool bb2 /\ wx = w17.drewN nq /\ Hid ((bb2 = true -> Pl.foundN (Pl.colU k rt) (i + 1) = f) /\ (bb2 = false -> (i = 0 \/ ∃ u,(Pl.colU k rt)[i - 1]? = some u /\ u ≠ vv))))
     case first =>
       by_cases hi0:i = 0
       · have HF:Hid (i = 0 \/ ∃ u,(Pl.colU k rt)[i - 1]? = some u /\ u ≠ vv) := .inl hi0
         have hi0':¬ (0:Int) < (i:Int) := by omega
         have hi0n:¬ 0 < i := by omega
         have hi0d:decide (0 < i) = false := by simp; omega
         clear HSt HNew hi0
         go_quiet (fail)
         all_goals go_wp2_with fail
         all_goals go_meet
         all_goals exact ⟨false,_,rfl,rfl,fun h=>(by cases h),fun _=>HF.out⟩
       · obtain ⟨j,hj,HJ⟩:∃ j:Nat,(i:Int) - 1 = (j:Nat) /\ Hid (i = j + 1) := ⟨i - 1,by omega,by unfold Hid; omega⟩
         have hjb:j <= 64 := by have := HJ.out; omega
         have hjw:IntKind.i64.wrap ((j:Nat):Int) = ((j:Nat):Int) := by rw [IntKind.wrap_i64]; omega
         have hki:((k:Nat):Int) < 3 := by omega
         have hji:((j:Nat):Int) < ((rt.length:Nat):Int) := by have := HJ.out; omega
         have hip:(0:Int) < (i:Int) := by omega
         have hipn:0 < i := by omega
         have hipd:decide (0 < i) = true := by simp; omega
         obtain ⟨rp,ep⟩:∃ a,(Pl.ups k rt)[j]? = some a := ⟨_,List.getElem?_eq_getElem (by rw [Pl.ups_len]; have := HJ.out; omega)⟩
         have hrp:rp.length = 3 := by obtain ⟨_,_,_,e,_⟩ := HT.out _ (Pl.isort_mem (List.mem_of_getElem? ep)); rw [e]; rfl
         obtain ⟨_,up,ucp,e2,zp,dp,_,xp⟩ := HM6.out.get HE.out ep
         cases e2
         obtain ⟨gp,_,e2,yp,q0,q1,q2⟩ := xp.val (i := k) (by rw [hrp]; exact hk3)
         cases e2
         rw [hrp] at dp
         have HCp := hide (Pl.colU_at (k := k) ep)
         unfold Pl.colV at HCp
         generalize rp.getD k Pl.nul = pv at *
         have hev := eqB_V pv vv
         cases hsm:Pl.V.same pv vv with
         | true =>
           have HF:Hid (Pl.foundN (Pl.colU k rt) (i + 1) = f) := HSt.out pv j HCp.out HJ.out ((Pl.V.same_iff _ _).1 hsm)
           rw [hsm] at hev
           clear HSt HNew hsm xp ep hrp hi0
           go_quiet (fail)
           all_goals go_wp2_with fail
           all_goals go_meet
           all_goals exact ⟨true,_,rfl,rfl,fun _=>HF.out,fun h=>(by cases h)⟩
         | false =>
           have HF:Hid (i = 0 \/ ∃ u,(Pl.colU k rt)[i - 1]? = some u /\ u ≠ vv) := .inr ⟨pv,by rw [show i - 1 = j by have := HJ.out; omega]; exact HCp.out,fun e=>by rw [(Pl.V.same_iff _ _).2 e] at hsm; cases hsm⟩
           rw [hsm] at hev
           clear HSt HNew hsm xp ep hrp hi0
           go_quiet (fail)
           all_goals go_wp2_with fail
           all_goals go_meet
           all_goals exact ⟨false,_,rfl,rfl,fun h=>(by cases h),fun _=>HF.out⟩
     case rest =>
       obtain ⟨bb2,nq,rfl,rfl,HF⟩ := hcut
       have HEd:Hid (Below w11.heap.size w11 (w17.drewN nq)) := below_drewN HE.out nq
       cases bb2 with
       | true =>
         have HF1 := hide (HF.out.1 rfl)
         clear HNew HSt HF
         go_wp2_with fail
         exact ⟨⟨i + 1,f,by omega,by go_num,rfl,hf8,HF1.out.symm,HEd.out⟩,by simp [intOf]; omega⟩
       | false =>
         obtain ⟨hf1,g11,_,rfl,hfN,z11,go,co,yo,d11,s0,s1,s2⟩ := HNew.out (HF.out.2 rfl)
         have HF1 := hide hf1
         have hfN':decide ((N:Int) <= (f:Int)) = false := by simp; omega
         have hfN2:((f:Nat):Int) < ((N:Nat):Int) := by omega
         have hfN3:decide (N <= f) = false := by simp; omega
         clear hf1 HNew HSt HF
         go_upto_region 30 with fail
         go_cut [219] from 133 to 221 (fun s219 wx=>∃ nq2:Nat,s219 = .bool false /\ wx = (w17.drewN nq).drewN nq2)
         case first =>
           go_quiet (fail)
           all_goals go_wp2_with fail
           all_goals go_meet
           all_goals exact ⟨_,rfl,rfl⟩
         case rest =>
           obtain ⟨nq2,rfl,rfl⟩ := hcut
           have hf7:f + 1 <= 8 := by omega
           go_wp2_with fail
           go_roundw
           case rel=>exact ⟨i + 1,f + 1,by omega,by go_num,by go_num,hf7,HF1.out.symm,by first | exact below_drewN HE.out (nq + nq2) | exact below_drewN HEd.out nq2⟩
           case measure=>simp [intOf]; omega
   · obtain rfl:i = rt.length := by omega
     have hfN:f = N := by
       rw [HI.out.1,<- HNN.out,<- Pl.found_last,Pl.colU_len]
     subst hfN
     have HI2 := hide HI.out.2
     have HLr:Hid (∀ q ∈ rt,q.length = 3) := fun q hq=>by
       obtain ⟨_,_,_,e,_⟩ := HT.out q hq
       rw [e]
       rfl
     clear hbI hzI HI HM5 HM11 HNN
     go_wp2_with fail
     rename_i Q1 K1 hK1 K2 hK2
     revert raw cn li of w D rt ru a1 c1 M1 lay1 bb w2 k n m w4 x xn xm w5 M5 lay5 a5 c5 w6 M6 lay6 a6 c6 w7 M7 lay7 a7 c7 w8 w9 w10 M10 lay10 a10 c10 n10 w11 M11 lay11 a11 c11 K0 wr f Q1 K1 K2 u8 u26 u27 u28 u29 u30 u31 u37 u38 u39 u40 u41 u42 u43 u44 u45 u46 u47 u48 u49 u50 u51 u52 u53 u54 u55 u56 u57 u58 u59 u60 u61 u62 u63 u64 u65 u66 u67 u68 u69 u70 u71 u72 u73 u74 u75 u76 u77 u78 u79 u80 u81 u82 u83 u84 u85 u86 u87 u88 u89 u90 u91 u92 u93 u94 u95 u96 u97 u98 u99 u100 u101 u102 u103 u104 u105 u106 u107 u108 u109 u110 u111 u112 u113 u114 u115 u116 u117 u118 u119 u120 u121 u122 u123 u124 u125 u126 u127 u128 u129 u130 u131 u132 u133 u134 u135 u136 u137 u138 u139 u140 u141 u142 u143 u144 u145 u146 u147 u148 u149 u150 u151 u152 u153 u154 u155 u156 u157 u158 u159 u160 u161 u162 u163 u164 u165 u166 u167 u168 u169 u170 u171 u172 u173 u174 u175 u176 u177 u178 u179 u180 u181 u182 u183 u184 u185 u186 u187 u188 u189 u190 u191 u192 u193 u194 u195 u196 u197 u198 u199 u200 u201 u202 u203 u204 u205 u206 u207 u208 u209 u210 u211 u212 u213 u214 u215 u216 u217 u218 u219 u220 u221 u222 u223 u224 u225 u226 u227 u228 u229 u230 u231 u232 u233 u234 u235 u236 u237 u238 u239 u240 u241 u242 u243 u244 u245 u246 u247 u248 u249 u250 u251 u252 u253 u254 u255 u256 u257 u258 u259 u260 u261 u262 u263 u264 u265 u266 u267 u268 u269 u270 u271 u272 u273 u274 u275 u276 u277 u278 u279 u280 u281 u282 u283 u284 u285 u286 u287
     exact hG.out
theorem ordC:ordB.1 := by
 delta ordB
 unhygienic
   intro raw
   intros
 go_loopw [32] (fun s32 wr2=>∃ j:Nat,1 <= j /\ j <= rt.length /\ s32 = .int .i64 (j:Nat) /\ Hid (Below w11.heap.size w11 wr2)) (fun a _=>rt.length - (intOf a).toNat)
 case atStart=>exact ⟨1,Nat.le_refl _,hl1,rfl,HI2.out⟩
 case round =>
   obtain ⟨j,hj1,hjl,rfl,HJ⟩ := hrel
   have hbJ := HJ.out
   clear HI2
   by_cases hltj:j < rt.length
   · obtain ⟨p,hp,HP⟩:∃ p:Nat,(j:Int) - 1 = (p:Nat) /\ Hid (j = p + 1) := ⟨j - 1,by omega,by unfold Hid; omega⟩
     have hpl:p < rt.length := by have := HP.out; omega
     have hpb:p <= 64 := by omega
     have hpw:IntKind.i64.wrap ((p:Nat):Int) = ((p:Nat):Int) := by rw [IntKind.wrap_i64]; omega
     have hki:((k:Nat):Int) < 3 := by omega
     have hpi:((p:Nat):Int) < ((rt.length:Nat):Int) := by omega
     have HUa:Hid (∃ a,(Pl.ups k rt)[p]? = some a /\ a ∈ rt) := ⟨_,List.getElem?_eq_getElem (by rw [Pl.ups_len]; exact hpl),Pl.isort_mem (List.getElem_mem _)⟩
     have HUb:Hid (∃ a,(Pl.ups k rt)[j]? = some a /\ a ∈ rt) := ⟨_,List.getElem?_eq_getElem (by rw [Pl.ups_len]; exact hltj),Pl.isort_mem (List.getElem_mem _)⟩
     have HDa:Hid (∃ a,(Pl.downs k rt)[p]? = some a /\ a ∈ rt) := ⟨_,List.getElem?_eq_getElem (by rw [Pl.downs_len]; exact hpl),Pl.isort_mem (List.getElem_mem _)⟩
     have HDb:Hid (∃ a,(Pl.downs k rt)[j]? = some a /\ a ∈ rt) := ⟨_,List.getElem?_eq_getElem (by rw [Pl.downs_len]; exact hltj),Pl.isort_mem (List.getElem_mem _)⟩
     obtain ⟨ra,ea,ma⟩ := HUa.out
     obtain ⟨rb,eb,mb⟩ := HUb.out
     obtain ⟨rc,ec,mc⟩ := HDa.out
     obtain ⟨re,ee,me⟩ := HDb.out
     obtain ⟨g6,ua,uca,rfl,z6,da,_,xa⟩ := HM6.out.get hbJ ea
     obtain ⟨_,ub,ucb,e2,_,db,_,xb⟩ := HM6.out.get hbJ eb
     cases e2
     obtain ⟨g7,uc,ucc,rfl,z7,dc,_,xc⟩ := HM7.out.get hbJ ec
     obtain ⟨_,ue,uce,e2,_,de,_,xe⟩ := HM7.out.get hbJ ee
     cases e2
     obtain ⟨ga,_,e2,ya,a0,a1',a2'⟩ := xa.val (i := k) (by rw [HLr.out _ ma]; exact hk3)
     cases e2
     obtain ⟨gb,_,e2,yb,b0,b1,b2⟩ := xb.val (i := k) (by rw [HLr.out _ mb]; exact hk3)
     cases e2
     obtain ⟨gc,_,e2,yc,c0,c1',c2⟩ := xc.val (i := k) (by rw [HLr.out _ mc]; exact hk3)
     cases e2
     obtain ⟨ge,_,e2,ye,e0,e1,e2'⟩ := xe.val (i := k) (by rw [HLr.out _ me]; exact hk3)
     cases e2
     rw [HLr.out _ ma] at da
     rw [HLr.out _ mb] at db
     rw [HLr.out _ mc] at dc
     rw [HLr.out _ me] at de
     have HF1:Hid (∀ W,_) := fun W=>befM (ra.getD k Pl.nul) (rb.getD k Pl.nul) W (Pl.up_bef hk3 HT.out ea (by rw [<- HP.out]; exact eb))
     have HF2:Hid (∀ W,_) := fun W=>befM (re.getD k Pl.nul) (rc.getD k Pl.nul) W (Pl.down_bef hk3 HT.out ec (by rw [<- HP.out]; exact ee))
     have C0 := hide c0
     have C1 := hide c1'
     have C2 := hide c2
     have E0 := hide e0
     have E1 := hide e1
     have E2 := hide e2'
     have DC := hide dc
     have DE := hide de
     generalize ra.getD k Pl.nul = va at *
     generalize rb.getD k Pl.nul = vb at *
     generalize rc.getD k Pl.nul = vc at *
     generalize re.getD k Pl.nul = ve at *
     clear HUa HUb HDa HDb ea eb ec ee ma mb mc me xa xb xc xe HP hbJ c0 c1' c2 e0 e1 e2' dc de HM10
     go_upto_region 36 with fail
     go_cut [33] from 222 to 265 (fun s33 wx=>s33 = .bool true /\ Hid (Below wr.heap.size wr wx))
     case first =>
       have HCl:Hid (Calls Tryz.prog 26 #[.agg #[.int .i64 va.kind,.int .i64 va.n,.string ⟨va.s.toArray⟩],.agg #[.int .i64 vb.kind,.int .i64 vb.n,.string ⟨vb.s.toArray⟩]] wr.drew fun e w' => ∃ v,e = .returned v /\ (v = .bool true /\ Below wr.heap.size wr w')) := by
         refine (HF1.out wr.drew).mono ?_
         rintro e w' ⟨rfl,hb⟩
         exact ⟨_,rfl,rfl,(Below.refl _ _).drew.trans hb⟩
       go_region_law (refine step_call2 rfl 26 (.tmp 235) (.tmp 242) _ rfl (.agg #[.int .i64 va.kind,.int .i64 va.n,.string ⟨va.s.toArray⟩]) (.agg #[.int .i64 vb.kind,.int .i64 vb.n,.string ⟨vb.s.toArray⟩]) (ent_before _ _) (by simp [Act.eval,Act.put]) (by simp [Act.eval,Act.put]) _ (unhide HCl) ?_
                      rintro v8 w8 ⟨rfl,hp8⟩
                      have HP8 := hide hp8
                      clear hp8)
       all_goals go_wp2_with fail
       all_goals go_meet
       all_goals exact ⟨rfl,HP8.out⟩
     case rest =>
       obtain ⟨rfl,HB36⟩ := hcut
       have hbB := HB36.out
       have hzB := hbB.size
       have z6 := Nat.lt_of_lt_of_le z6 hzB
       have z7 := Nat.lt_of_lt_of_le z7 hzB
       have c0 := (hbB.cell (p := ⟨gc,k * 3,none⟩) yc).trans C0.out
       have c1' := (hbB.cell (p := ⟨gc,k * 3 + 1,none⟩) yc).trans C1.out
       have c2 := (hbB.cell (p := ⟨gc,k * 3 + 2,none⟩) yc).trans C2.out
       have e0 := (hbB.cell (p := ⟨ge,k * 3,none⟩) ye).trans E0.out
       have e1 := (hbB.cell (p := ⟨ge,k * 3 + 1,none⟩) ye).trans E1.out
       have e2' := (hbB.cell (p := ⟨ge,k * 3 + 2,none⟩) ye).trans E2.out
       have dc := (hbB.cell (p := ⟨g7,p,none⟩) (Nat.lt_of_lt_of_le (by assumption) (Nat.le_refl _))).trans DC.out
       have de := (hbB.cell (p := ⟨g7,j,none⟩) (by assumption)).trans DE.out
       have yc := Nat.lt_of_lt_of_le yc hzB
       have ye := Nat.lt_of_lt_of_le ye hzB
       clear a0 a1' a2' b0 b1 b2 da db C0 C1 C2 E0 E1 E2 DC DE HF1 hbB
       go_upto_region 37 with fail
       go_cut [34] from 222 to 265 (fun s34 wx=>s34 = .bool true /\ Hid (Below wr.heap.size wr wx))
       case first =>
         have HCl:Hid (Calls Tryz.prog 26 #[.agg #[.int .i64 ve.kind,.int .i64 ve.n,.string ⟨ve.s.toArray⟩],.agg #[.int .i64 vc.kind,.int .i64 vc.n,.string ⟨vc.s.toArray⟩]] wc.drew fun e w' => ∃ v,e = .returned v /\ (v = .bool true /\ Below wr.heap.size wr w')) := by
           refine (HF2.out wc.drew).mono ?_
           rintro e w' ⟨rfl,hb⟩
           exact ⟨_,rfl,rfl,HB36.out.trans (((Below.refl _ _).drew.trans hb).mono HB36.out.size)⟩
         go_region_law (refine step_call2 rfl 26 (.tmp 250) (.tmp 258) _ rfl (.agg #[.int .i64 ve.kind,.int .i64 ve.n,.string ⟨ve.s.toArray⟩]) (.agg #[.int .i64 vc.kind,.int .i64 vc.n,.string ⟨vc.s.toArray⟩]) (ent_before _ _) (by simp [Act.eval,Act.put]) (by simp [Act.eval,Act.put]) _ (unhide HCl) ?_
                        rintro v8 w8 ⟨rfl,hp8⟩
                        have HP8 := hide hp8
                        clear hp8)
         all_goals go_wp2_with fail
         all_goals go_meet
         all_goals exact ⟨rfl,HP8.out⟩
       case rest =>
         obtain ⟨rfl,HB37⟩ := hcut
         have HEnd := hide (HJ.out.trans (HB37.out.mono HJ.out.size))
         clear c0 c1' c2 e0 e1 e2' dc de yc ye HF2
         go_wp2_with fail
         go_roundw
         case rel=>exact ⟨j + 1,by omega,by omega,by go_num,HEnd.out⟩
         case measure=>simp [intOf]; omega
   · obtain rfl:j = rt.length := by omega
     obtain ⟨ra,ea⟩:∃ a,(Pl.ups k rt)[0]? = some a := ⟨_,List.getElem?_eq_getElem (by rw [Pl.ups_len]; omega)⟩
     obtain ⟨g6,_,_,rfl,_,_,_,_⟩ := HM6.out.get hbJ ea
     have HO := hide (HM6o.out.below HJ.out)
     have HP10 := hide (HM10.out.below HJ.out)
     have hcap:rt.length <= c6 := by
       obtain ⟨_,_,e,hc,_⟩ := HO.out
       rw [Pl.ups_len] at hc
       injection e with e1 e2 e3
       omega
     have HCut := hide (Pl.part_cut (Pl.ups k rt) n m)
     rw [Pl.ups_len] at HCut
     clear hbJ ea HM6 HM7 HM6o HM10
     have HSm:Hid (∀ (a b c':Nat) (y:Option Addr),(b = 0 \/ y = some ⟨g6,a,none⟩) -> b <= c' -> a + b <= rt.length -> ((Pl.ups k rt).drop m).take n = ((Pl.ups k rt).drop a).take b -> Calls Tryz.prog 25 #[.slice a10 n10 c10,.slice y b c'] wr fun e w' => e = .returned (.bool true) /\ Below wr.heap.size wr w') := fun a b c' y hy hc hab heq=>by
       have h1 := HP10.out
       rw [heq] at h1
       refine sameY _ _ _ wr h1 ?_ (by simp [Pl.ups_len]; omega) (fun q hq=>by
         have := HLr.out q (Pl.isort_mem (List.mem_of_mem_drop (List.mem_of_mem_take hq)))
         omega)
       rcases hy with rfl | rfl
       · rw [List.take_zero]
         exact ⟨_,_,rfl,by simp,fun hn=>absurd rfl hn⟩
       · obtain ⟨_,_,e,hc2,h2⟩ := HO.out
         have hlen:(((Pl.ups k rt).drop a).take b).length = b := by rw [List.length_take,List.length_drop,Pl.ups_len]; omega
         refine ⟨_,_,by rw [hlen],by rw [hlen]; exact hc,fun hn=>?_⟩
         obtain ⟨g',o',e3,hg3,h3⟩ := h2 (by intro e0; rw [e0] at hn; simp at hn)
         injection e with e1 e2 e4
         rw [e3] at e1
         cases e1
         refine ⟨g6,a,rfl,hg3,fun i r hr=>?_⟩
         have hi:i < b := by
           have := (List.getElem?_eq_some_iff.1 hr).1
           omega
         rw [List.getElem?_take_of_lt hi,List.getElem?_drop] at hr
         have := h3 (a + i) r hr
         simpa using this
     have HEq1 := HCut
     clear HCut
     have HFin:Hid (∀ W,Below wr.heap.size wr W -> Below bb w W) := fun W hb=>by
       have h1 := HBw.out
       have h2:bb <= w11.heap.size := by have := h1.size; have := HBB.out; omega
       exact (h1.trans (HJ.out.mono h2)).trans (hb.mono (by have := HJ.out.size; omega))
     have hff:(((f:Nat):Int) == ((f:Nat):Int)) = true := by simp
     clear HP10 HO HLr
     by_cases hmr:m <= rt.length
     · have hmi:((m:Nat):Int) <= ((rt.length:Nat):Int) := by omega
       by_cases hcm:m = c6
       · subst hcm
         have hrm:rt.length = m := by omega
         have HRm := hide hrm
         have HQ:Hid (∀ b,((Pl.ups k rt).drop m).take n = ((Pl.ups k rt).drop m).take b) := fun b=>by
           rw [List.drop_of_length_le (by rw [Pl.ups_len]; omega)]
           simp
         clear hrm HEq1
         by_cases hn0:n = 0
         · have hni:((m:Nat):Int) + ((n:Nat):Int) <= ((rt.length:Nat):Int) := by have := HRm.out; omega
           have HN0 := hide hn0
           clear hn0
           go_wp2_with fail
           refine (HSm.out m _ _ _ ?_ ?_ ?_ ?_).mono ?_
           rotate_left 4
           · rintro e w12 ⟨rfl,hb12⟩
             have HE := hide (HFin.out _ hb12)
             clear hb12
             go_wp2_with fail
             go_ret
             exact ⟨rfl,by rw [HBB.out]; exact HE.out⟩
           · first | exact .inl rfl | exact .inr rfl | exact .inl HN0.out | exact .inl (by have := HRm.out; omega)
           · first | omega | (have := HN0.out; omega) | (have := HRm.out; omega) | simp
           · first | omega | (have := HN0.out; omega) | (have := HRm.out; omega) | simp
           · first | exact HQ.out _ | rfl
         · have hni:¬ ((m:Nat):Int) + ((n:Nat):Int) <= ((rt.length:Nat):Int) := by have := HRm.out; omega
           have HN0:Hid True := trivial
           clear hn0
           go_wp2_with fail
           refine (HSm.out m _ _ _ ?_ ?_ ?_ ?_).mono ?_
           rotate_left 4
           · rintro e w12 ⟨rfl,hb12⟩
             have HE := hide (HFin.out _ hb12)
             clear hb12
             go_wp2_with fail
             go_ret
             exact ⟨rfl,by rw [HBB.out]; exact HE.out⟩
           · first | exact .inl rfl | exact .inr rfl | exact .inl HN0.out | exact .inl (by have := HRm.out; omega)
           · first | omega | (have := HN0.out; omega) | (have := HRm.out; omega) | simp
           · first | omega | (have := HN0.out; omega) | (have := HRm.out; omega) | simp
           · first | exact HQ.out _ | rfl
       · by_cases hnr:m + n <= rt.length
         · have hni:((m:Nat):Int) + ((n:Nat):Int) <= ((rt.length:Nat):Int) := by omega
           have HC := hide (HSm.out m n (c6 - m) _ (.inr rfl) (by omega) hnr rfl)
           go_wp2_with fail
           refine (unhide HC).mono ?_
           rintro e w12 ⟨rfl,hb12⟩
           have HE := hide (HFin.out _ hb12)
           clear hb12
           go_wp2_with fail
           go_ret
           exact ⟨rfl,by rw [HBB.out]; exact HE.out⟩
         · have hni:¬ ((m:Nat):Int) + ((n:Nat):Int) <= ((rt.length:Nat):Int) := by omega
           rw [Nat.min_eq_left hmr,Nat.min_eq_right (by omega)] at HEq1
           have HC := hide (HSm.out m (rt.length - m) (c6 - m) _ (.inr rfl) (by omega) (by omega) HEq1.out)
           clear HEq1
           go_wp2_with fail
           refine (unhide HC).mono ?_
           rintro e w12 ⟨rfl,hb12⟩
           have HE := hide (HFin.out _ hb12)
           clear hb12
           go_wp2_with fail
           go_ret
           exact ⟨rfl,by rw [HBB.out]; exact HE.out⟩
     · have hmi:¬ ((m:Nat):Int) <= ((rt.length:Nat):Int) := by omega
       have HRm:Hid (rt.length <= m) := by unfold Hid; omega
       have HQ:Hid (∀ b,((Pl.ups k rt).drop m).take n = ((Pl.ups k rt).drop rt.length).take b) := fun b=>by
         rw [List.drop_of_length_le (by rw [Pl.ups_len]; omega),List.drop_of_length_le (by rw [Pl.ups_len]; omega)]
         simp
       clear HEq1 hmr
       by_cases hcl:rt.length = c6
       · subst hcl
         by_cases hn0:n = 0
         · have hni:((rt.length:Nat):Int) + ((n:Nat):Int) <= ((rt.length:Nat):Int) := by omega
           have HN0 := hide hn0
           clear hn0
           go_wp2_with fail
           refine (HSm.out rt.length _ _ _ ?_ ?_ ?_ ?_).mono ?_
           rotate_left 4
           · rintro e w12 ⟨rfl,hb12⟩
             have HE := hide (HFin.out _ hb12)
             clear hb12
             go_wp2_with fail
             go_ret
             exact ⟨rfl,by rw [HBB.out]; exact HE.out⟩
           · first | exact .inl rfl | exact .inr rfl | exact .inl HN0.out | exact .inl (by have := HRm.out; omega)
           · first | omega | (have := HN0.out; omega) | (have := HRm.out; omega) | simp
           · first | omega | (have := HN0.out; omega) | (have := HRm.out; omega) | simp
           · first | exact HQ.out _ | rfl
         · have hni:¬ ((rt.length:Nat):Int) + ((n:Nat):Int) <= ((rt.length:Nat):Int) := by omega
           have HN0:Hid True := trivial
           clear hn0
           go_wp2_with fail
           refine (HSm.out rt.length _ _ _ ?_ ?_ ?_ ?_).mono ?_
           rotate_left 4
           · rintro e w12 ⟨rfl,hb12⟩
             have HE := hide (HFin.out _ hb12)
             clear hb12
             go_wp2_with fail
             go_ret
             exact ⟨rfl,by rw [HBB.out]; exact HE.out⟩
           · first | exact .inl rfl | exact .inr rfl | exact .inl HN0.out | exact .inl (by have := HRm.out; omega)
           · first | omega | (have := HN0.out; omega) | (have := HRm.out; omega) | simp
           · first | omega | (have := HN0.out; omega) | (have := HRm.out; omega) | simp
           · first | exact HQ.out _ | rfl
       · by_cases hn0:n = 0
         · have hni:((rt.length:Nat):Int) + ((n:Nat):Int) <= ((rt.length:Nat):Int) := by omega
           have HN0 := hide hn0
           clear hn0
           go_wp2_with fail
           refine (HSm.out rt.length _ _ _ ?_ ?_ ?_ ?_).mono ?_
           rotate_left 4
           · rintro e w12 ⟨rfl,hb12⟩
             have HE := hide (HFin.out _ hb12)
             clear hb12
             go_wp2_with fail
             go_ret
             exact ⟨rfl,by rw [HBB.out]; exact HE.out⟩
           · first | exact .inl rfl | exact .inr rfl | exact .inl HN0.out | exact .inl (by have := HRm.out; omega)
           · first | omega | (have := HN0.out; omega) | (have := HRm.out; omega) | simp
           · first | omega | (have := HN0.out; omega) | (have := HRm.out; omega) | simp
           · first | exact HQ.out _ | rfl
         · have hni:¬ ((rt.length:Nat):Int) + ((n:Nat):Int) <= ((rt.length:Nat):Int) := by omega
           have HN0:Hid True := trivial
           clear hn0
           go_wp2_with fail
           refine (HSm.out rt.length _ _ _ ?_ ?_ ?_ ?_).mono ?_
           rotate_left 4
           · rintro e w12 ⟨rfl,hb12⟩
             have HE := hide (HFin.out _ hb12)
             clear hb12
             go_wp2_with fail
             go_ret
             exact ⟨rfl,by rw [HBB.out]; exact HE.out⟩
           · first | exact .inl rfl | exact .inr rfl | exact .inl HN0.out | exact .inl (by have := HRm.out; omega)
           · first | omega | (have := HN0.out; omega) | (have := HRm.out; omega) | simp
           · first | omega | (have := HN0.out; omega) | (have := HRm.out; omega) | simp
           · first | exact HQ.out _ | rfl
theorem orderedK (L:LexLib) (X:MachLib) (HS:StableM 19 600) (HO:OnceM) (raw:List Int) (cn li of:Int) (v1:Value) (w:World) (h1:IntsAt w raw v1) (hr1:∀ x ∈ raw,Pl.in64 x) (hcn:Pl.in64 cn) (hli:Pl.in64 li) (hof:Pl.in64 of) (hg:Globs w) :
   Calls Tryz.prog 7 #[v1,.int .i64 cn,.int .i64 li,.int .i64 of] w fun e w' => e = .returned (.bool true) /\ Below w.heap.size w w' :=
 ordA.2 (hide (ordB.2 (hide ordC))) L X HS HO raw cn li of v1 w h1 hr1 hcn hli hof hg
end Go.Proofs.YtojdpjpldokjmaaGreatDoor
