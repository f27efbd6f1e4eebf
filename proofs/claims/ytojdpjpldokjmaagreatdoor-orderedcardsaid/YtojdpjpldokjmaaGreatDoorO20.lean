/- The code's choose: a SELECT's rows. -/
import Derived.Test.YtojdpjpldokjmaaGreatDoorO09
import Derived.Test.YtojdpjpldokjmaaGreatDoorO19
import Derived.Test.YtojdpjpldokjmaaGreatDoorO04
import Derived.Test.YtojdpjpldokjmaaGreatDoorO05
set_option maxHeartbeats 60000000
set_option maxRecDepth 100000
namespace Go.Proofs.YtojdpjpldokjmaaGreatDoor.Pl
theorem evRows_no0 {cols:List Col} {ts:List T}:∀ {rs:List (List V)} {e:Nat},evRows cols ts rs = .error e -> e = 4 \/ e = 5
 | [],e,h=>by simp [evRows] at h
 | r :: rs,e,h=>by
   rw [evRows] at h
   cases ha:evAll cols r ts with
   | error e' => rw [ha] at h; cases h; exact evAll_err ha
   | ok v =>
     rw [ha] at h
     simp only at h
     cases hr:evRows cols ts rs with
     | error e' => rw [hr] at h; cases h; exact evRows_no0 hr
     | ok vs=>rw [hr] at h; cases h
theorem siftP_no0 {cols:List Col} {c:T}:∀ {rs:List PRow} {e:Nat},siftP cols c rs = .error e -> e = 4 \/ e = 5
 | [],e,h=>by simp [siftP] at h
 | r :: rs,e,h=>by
   rw [siftP] at h
   cases ha:ev cols r.1 c with
   | error e' => rw [ha] at h; cases h; exact ev_err ha
   | ok v =>
     rw [ha] at h
     simp only at h
     cases hr:siftP cols c rs with
     | error e' => rw [hr] at h; cases h; exact siftP_no0 hr
     | ok z=>rw [hr] at h; cases h
theorem joinsP_no0:∀ {ss:List Src} {rows:List (List V)} {e:Nat},joinsP ss rows = .error e -> e = 4 \/ e = 5
 | [],rows,e,h=>by simp [joinsP] at h
 | s :: ss,rows,e,h=>by
   rw [joinsP] at h
   cases hj:joinRows s.cols s.c s.lf s.n (s.qs.map (·.1)) rows with
   | error e' => rw [hj] at h; cases h; exact joinRows_no0 hj
   | ok z=>rw [hj] at h; exact joinsP_no0 h
theorem chosen_1 {cols:List Col} {s:St} {ps:List PRow} {er:Nat} (h:siftP cols (cond s.whr) ps = .error er):chosen cols s (ps.map (·.1)) = .error er := by
 unfold chosen; rw [siftP_sift,h]; rfl
theorem chosen_2 {cols:List Col} {s:St} {ps:List PRow} {z:List PRow × List PRow} {er:Nat} (h:siftP cols (cond s.whr) ps = .ok z) (h2:evRows cols (s.keys.map (·.tree)) (z.1.map (·.1)) = .error er):chosen cols s (ps.map (·.1)) = .error er := by
 unfold chosen; rw [siftP_sift,h]; simp only [fsts,h2]
theorem chosen_3 {cols:List Col} {s:St} {ps:List PRow} {z:List PRow × List PRow} {ranks:List (List V)} {er:Nat} (h:siftP cols (cond s.whr) ps = .ok z) (h2:evRows cols (s.keys.map (·.tree)) (z.1.map (·.1)) = .ok ranks) (h3:evRows cols (valuesOf s cols) (sorted (z.1.map (·.1)) ranks (s.keys.map (·.mark))) = .error er):chosen cols s (ps.map (·.1)) = .error er := by
 unfold chosen; rw [siftP_sift,h]; simp only [fsts,h2,h3]
theorem chosen_4 {cols:List Col} {s:St} {ps:List PRow} {z:List PRow × List PRow} {ranks out:List (List V)} (h:siftP cols (cond s.whr) ps = .ok z) (h2:evRows cols (s.keys.map (·.tree)) (z.1.map (·.1)) = .ok ranks) (h3:evRows cols (valuesOf s cols) (sorted (z.1.map (·.1)) ranks (s.keys.map (·.mark))) = .ok out):chosen cols s (ps.map (·.1)) = .ok (window (if s.distinct = true then once out else out) s.offset s.limit) := by
 unfold chosen; rw [siftP_sift,h]; simp only [fsts,h2,h3]
theorem chosenOf_err {D:DB} {s:St} {is:List Nat} {er:Nat} (h:joinsAll D [] [[]] is s.sources = .error er):chosenOf D s is = .error er := by unfold chosenOf; rw [h]
theorem chosenOf_ok {D:DB} {s:St} {is:List Nat} {rows:List (List V)} (h:joinsAll D [] [[]] is s.sources = .ok rows):chosenOf D s is = chosen (scopes D is s.sources) s rows := by unfold chosenOf; rw [h]
end Go.Proofs.YtojdpjpldokjmaaGreatDoor.Pl
namespace Go.Proofs.YtojdpjpldokjmaaGreatDoor
open Go.RowKit Go.Deep
set_option linter.unusedSimpArgs false
set_option linter.unusedVariables false
theorem step_call3 {P:Program} {ops:Array Oper} {o:Oper} {a:Act} {w:World} {K:Act -> World -> Prop} {Q:Exit -> Act -> World -> Prop} {E:Prop}
   (hg:o.guard = none) (f:Nat) (x y z:Operand) (tys:Array TypeId) (hop:o.op = Op.call { callee := Callee.value (Operand.func f),args := #[x,y,z],argTypes := tys })
   (vx vy vz:Value) (hent:(callFunc f #[vx,vy,vz]).run P w = .ok (.enter f #[vx,vy,vz]) w) (hx:a.eval x = vx) (hy:a.eval y = vy) (hz:a.eval z = vz) (Post:Value -> World -> Prop) (hc:Calls P f #[vx,vy,vz] w fun e w' => ∃ v,e = .returned v /\ Post v w')
   (hK:∀ v w',Post v w' -> K (a.put o.dst v) w') :
   if Region.wanted o (yielded ops a.tmps) = true then Oper.wp P o a w K Q else E := by
 have hw:Region.wanted o (yielded ops a.tmps) = true := by simp [Region.wanted,hg]
 rw [if_pos hw]
 have hrun:(execOp a.eval o).run P w = .ok (.enter f #[vx,vy,vz]) w := by
   rw [<- hent,<- hx,<- hy,<- hz]
   simp [execOp,hop,resolve,invoke,go_sem,Act.eval]
 unfold Oper.wp
 rw [hrun,Oper.upon_enter]
 refine hc.mono ?_
 rintro e w' ⟨v,rfl,hp⟩
 exact hK v w' hp
theorem ent_inOrder (vs:Array Value) (w:World):(callFunc 112 vs).run Tryz.prog w = .ok (.enter 112 vs) w := by
 have h1:(Tryz.f112.name == "runtime.NumGoroutine") = false := by kernel_rfl
 have h2 : Tryz.f112.body.isNone = false := by kernel_rfl
 have h1':¬ Tryz.f112.name = "runtime.NumGoroutine" := by simpa using h1
 have h2':¬ Tryz.f112.body = none := by intro e; rw [e] at h2; cases h2
 simp [callFunc,go_sem,Tryz.func112,h1',h2']
theorem ent_window (vs:Array Value) (w:World):(callFunc 115 vs).run Tryz.prog w = .ok (.enter 115 vs) w := by
 have h1:(Tryz.f115.name == "runtime.NumGoroutine") = false := by kernel_rfl
 have h2 : Tryz.f115.body.isNone = false := by kernel_rfl
 have h1':¬ Tryz.f115.name = "runtime.NumGoroutine" := by simpa using h1
 have h2':¬ Tryz.f115.body = none := by intro e; rw [e] at h2; cases h2
 simp [callFunc,go_sem,Tryz.func115,h1',h2']
theorem NewRows.sub {w:World} {base:Nat} {qs rs:List Pl.PRow} (h:NewRows w base qs) (hs:rs.Sublist qs):NewRows w base rs := ⟨fun q hq=>h.1 q (hs.subset hq),h.2.sublist hs⟩
theorem NewRows.low {w:World} {base base':Nat} {qs:List Pl.PRow} (h:NewRows w base qs) (hb:base' <= base):NewRows w base' qs := ⟨fun q hq=>own_base (h.1 q hq) hb,h.2⟩
def OnceM:Prop := ∀ (qs:List Pl.PRow) (v:Value) (base:Nat) (w:World),PowAt w -> w.ownsRow base 32 1 v qs.length (sndC qs) -> NewRows w base qs -> qs.length <= 20000 -> (∀ q ∈ qs,q.1.length <= 1000 /\ Pl.okRow q.1) ->
 Calls Tryz.prog 114 #[v] w fun e w' => Below w.heap.size w w' /\ ∃ rs u,e = .returned u /\ rs.map (·.1) = Pl.once (qs.map (·.1)) /\ rs.Sublist qs /\ w'.ownsRow w.heap.size 32 1 u rs.length (sndC rs)
def PostSel (w:World) (o:Pl.Out (List (List Pl.V))) (e:Ending) (w':World):Prop := Below w.heap.size w w' /\
 ((∃ er,o = .error er /\ e = .returned (.tuple #[.slice none 0 0,.int .i64 (er:Nat)])) \/
  (∃ qs v,o = .ok (qs.map (·.1)) /\ e = .returned (.tuple #[v,.int .i64 0]) /\ w'.ownsRow w.heap.size 32 1 v qs.length (sndC qs) /\ NewRows w' w.heap.size qs))
theorem part_window (qs:List Pl.PRow) (off lim:Int) (h1:0 <= off) (h2:lim = -1 \/ 0 <= lim) (hl:qs.length <= 20000):(part qs off.toNat (limV lim).toNat).map (·.1) = Pl.window (qs.map (·.1)) off lim := by
 unfold part Pl.window limV
 rcases h2 with rfl | h2
 · simp only [if_true]
   rw [if_pos (by omega),List.take_of_length_le (by simp; omega),List.map_drop]
 · rw [if_neg (by omega),if_neg (by omega),List.map_take,List.map_drop]
theorem Joins.mat {w:World} {base:Nat} {v:Value} {js:List Pl.PRow} (h:Joins w base v js):MatW w w.heap.size js v := mat_own h.1 (fun p hp=>own_rows (f := vC) (fun _=>rfl) (h.2 p hp).1 (Nat.le_refl _))
theorem evRows_len {cols:List Pl.Col} {ts:List Pl.T}:∀ {rows out:List (List Pl.V)},Pl.evRows cols ts rows = .ok out -> out.length = rows.length
 | [],out,h=>by simp [Pl.evRows] at h; subst h; rfl
 | r :: rs,out,h=>by
   rw [Pl.evRows] at h
   cases ha:Pl.evAll cols r ts with
   | error e=>rw [ha] at h; cases h
   | ok v =>
     rw [ha] at h
     simp only at h
     cases hr:Pl.evRows cols ts rs with
     | error e=>rw [hr] at h; cases h
     | ok vs=>rw [hr] at h; cases h; simp [evRows_len hr]
theorem part_sub (fs:List Pl.PRow) (off lim:Nat):(part fs off lim).Sublist fs := (List.take_sublist _ _).trans (List.drop_sublist _ _)
theorem ord_ret {f:Nat} {args:Array Value} {W:World} {oo:Pl.Out (List (List Pl.V))} {ps:List Pl.PRow} {ds:List Bool} (h:Calls Tryz.prog f args W (PostOrd W oo ps ds)):Calls Tryz.prog f args W fun e w' => ∃ v,e = .returned v /\ ∃ (a:Value) (er:Int),v = .tuple #[a,.int .i64 er] /\ PostOrd W oo ps ds (.returned (.tuple #[a,.int .i64 er])) w' := by
 refine h.mono ?_
 rintro e w' ⟨hb,⟨er,h1,rfl⟩ | ⟨ranks,qs,v,h1,h2,h3,h4,rfl,h5⟩⟩
 · exact ⟨_,rfl,_,_,rfl,hb,.inl ⟨er,h1,rfl⟩⟩
 · exact ⟨_,rfl,_,_,rfl,hb,.inr ⟨ranks,qs,v,h1,h2,h3,h4,rfl,h5⟩⟩
theorem chooseM (X:MachLib) (N:Nat) {L:Nat} (HSt:StableM N L) (hN1:N <= 1048576) (w:World) (M:Nat -> Prop) (b n:Nat) (lay:List Lay) (D:Pl.DB) (s:Pl.St) (ss:List (Pl.It × Value)) (vs:List (Pl.T × Value)) (ks:List Key) (u x v o:Value) (h:DbW w M b lay D) (hs:SelIn w n s ss vs ks u x v o)
   (hN:∀ is rows,Pl.joinsAll D [] [[]] is s.sources = .ok rows -> rows.length <= N) (hO:s.distinct = true -> OnceM) (hkL:s.keys.length <= L) (hpw:s.distinct = true -> PowAt w) :
   Calls Tryz.prog 69 #[.pointer (some ⟨b,0,none⟩),.pointer (some ⟨n,0,none⟩)] w (PostSel w (Pl.choose D s)) := by
 have HQ := hide (compileQueryM w M b n lay D s ss vs ks u x v o h hs)
 have HS := hide hs
 have HDb := hide h
 have HN := hide hN
 have HOn := hide hO
 have HPw := hide hpw
 have HkL := hide hkL
 have hn := lt_of_blk hs.blk
 clear h hs hN hO hpw hkL
 go_enter Tryz.func69,Tryz.ntmps69
 go_wp2_with fail
 refine (unhide HQ).mono ?_
 rintro e w1 ⟨hb1,hpost⟩
 clear HQ
 have hz1 := hb1.size
 rcases hpost with ⟨er,herr,her,rfl⟩ | ⟨is,ps,vs1,os1,sv,vv,wv,ov,hch,rfl,hQ⟩
 · have hne:((er:Int) != 0) = true := by simp; omega
   have HE:Hid (PostSel w (Pl.choose D s) (.returned (.tuple #[.slice none 0 0,.int .i64 (er:Nat)])) (w1.alloc (.cells #[.slice none 0 0,.slice none 0 0,.slice none 0 0,.slice none 0 0] 221))) := ⟨hb1.alloc (by omega) _,.inl ⟨er,herr,rfl⟩⟩
   clear hb1 herr her
   go_wp2_with fail
   exact bodyPost_ret (v := .tuple #[.slice none 0 0,.int .i64 (er:Nat)]) (by simp [results,Tryz.results69,go_sem]) rfl HE.out
 · obtain ⟨sva,svc,hsv⟩ := hQ.srcs.slice
   obtain ⟨vva,vvc,hvv⟩ := hQ.vals.1.slice
   obtain ⟨wva,wvn,wvc,hwv⟩ := hQ.whr.slice
   obtain ⟨ova,ovc,hov⟩ := hQ.ords.1.slice
   subst hsv; subst hvv; subst hwv; subst hov
   have hb2:Below w1.heap.size w1 (w1.alloc (.cells #[.slice sva ps.length svc,.slice vva vs1.length vvc,.slice wva wvn wvc,.slice ova os1.length ovc] 221)) := (Below.refl _ _).alloc (Nat.le_refl _) _
   have hx2 := blk_new w1 (.cells #[.slice sva ps.length svc,.slice vva vs1.length vvc,.slice wva wvn wvc,.slice ova os1.length ovc] 221)
   have hB2 := hb1.trans (hb2.mono hz1)
   have hQ2 := hQ.below hb2
   have hD2 := HDb.out.below hB2
   have hsl:ps.length = s.sources.length := by
     have h1 := hQ.is_.1
     have:∀ {cols:List Pl.Col} {is:List Nat} {its:List Pl.It} {ps:List Pl.Src},SrcL D lay cols is its ps -> ps.length = its.length := by
       intro cols is its ps
       induction ps generalizing cols is its with
       | nil=>intro h; cases is <;> cases its <;> first | rfl | exact h.elim
       | cons p ps ih=>intro h; cases is <;> cases its <;> first | exact h.elim | (simp [ih h.2])
     exact this hQ.srcL
   have hs3:s.sources.length <= 3 /\ s.sources ≠ [] := by
     obtain ⟨a,r,e,_,_,hr,_⟩ := HS.out.ok.sources HS.out.kind
     rw [e]; simp; omega
   have hps:ps ≠ [] := by
     intro e
     rw [e] at hsl
     exact hs3.2 (List.length_eq_zero_iff.1 hsl.symm)
   have hus:∀ i ∈ is,(lay.getD i defL).us.length = (Pl.tabD D i).rows.length /\ i < D.length := fun i hi=>⟨(hD2.us (hQ.is_.2 i hi)).2.1,hQ.is_.2 i hi⟩
   have hJE:Pl.joinsP ps [[]] = Pl.joinsAll D [] [[]] is s.sources := joinsP_all hQ.srcL (fun i hi=>(hus i hi).1)
   have hrf0:∀ r ∈ ([[]]:List (List Pl.V)),Pl.RowFor [] r := by
     intro r hr
     simp at hr
     subst hr
     exact Pl.RowFor.nuls []
   have hOk:Pl.SrcsOk ps [[]] := srcsOk_of HDb.out.ok hQ.srcL hus (fun it hi=>by
       have := HS.out.srcs.ok
       rw [<- HS.out.srcsE] at hi
       obtain ⟨y,hy,rfl⟩ := List.mem_map.1 hi
       exact this y hy) hQ.ons hrf0 (by simp; omega) (by
       have:ps.length <= 3 := by omega
       calc ([[]]:List (List Pl.V)).length * 25 ^ ps.length <= 1 * 25 ^ 3 := Nat.mul_le_mul (by simp) (Nat.pow_le_pow_right (by omega) this)
         _ <= 20000 := by decide)
   have HJ := hide (joinAllM X ps _ _ hQ2.srcs hps (by omega) (fun y hy=>by
       obtain ⟨c,i,it,u',hi,e⟩ := SrcL.at hQ.srcL y hy
       exact srcW_of hD2 (hQ.is_.2 i hi) e (hQ2.srcP y hy)) hOk)
   rw [hJE] at HJ
   have HJ0:Hid (∀ e,Pl.joinsAll D [] [[]] is s.sources = .error e -> e = 4 \/ e = 5) := fun e he=>Pl.joinsP_no0 (by rw [hJE]; exact he)
   have HJ1:Hid (∀ rows,Pl.joinsAll D [] [[]] is s.sources = .ok rows -> (∀ r ∈ rows,Pl.RowFor (Pl.scopes D is s.sources) r) /\ rows.length <= 20000) := fun rows hr=>by
     obtain ⟨h1,h2⟩ := Pl.joinsAll_ok HDb.out.ok hQ.is_.1 hQ.is_.2 hrf0 hr
     refine ⟨by simpa using h1,Nat.le_trans h2 ?_⟩
     have:is.length <= 3 := by rw [hQ.is_.1]; exact hs3.1
     calc ([[]]:List (List Pl.V)).length * 25 ^ is.length <= 1 * 25 ^ 3 := Nat.mul_le_mul (by simp) (Nat.pow_le_pow_right (by omega) this)
       _ <= 20000 := by decide
   have HQ1 := hide hQ
   have HB2 := hide hB2
   have HX2 := hide hx2
   have HCh := hide hch
   clear hb1 hQ hb2 hx2 hB2 hQ2 hD2 hsl hs3 hps hus hJE hrf0 hOk hch
   go_wp2_with fail
   refine (unhide HJ).mono ?_
   rintro e w3 ⟨hb3,hpost⟩
   have hx3 := below_blk hb3 (by simp) HX2.out
   have hB3:Below w.heap.size w w3 := HB2.out.trans (hb3.mono HB2.out.size)
   have hB13:Below w1.heap.size w1 w3 := ((Below.refl _ _).alloc (Nat.le_refl _) _).trans (hb3.mono (by simp))
   have HB3 := hide hB3
   have HX3 := hide hx3
   have HB13 := hide hB13
   have hz3 := lt_of_blk hx3
   have y2 := blk_cell hx3 2
   simp at y2
   clear HJ
   rcases hpost with ⟨er,herr,rfl⟩ | ⟨js,jv,hok,rfl,hjs⟩
   · have hne:((er:Int) != 0) = true := by have := HJ0.out er herr; simp; omega
     have HE:Hid (PostSel w (Pl.choose D s) (.returned (.tuple #[.slice none 0 0,.int .i64 (er:Nat)])) w3) := ⟨hB3,.inl ⟨er,by rw [HCh.out,Pl.chosenOf_err herr],rfl⟩⟩
     clear herr hb3 hx3 hB3 hB13
     go_wp2_with fail
     exact bodyPost_ret (v := .tuple #[.slice none 0 0,.int .i64 (er:Nat)]) (by simp [results,Tryz.results69,go_sem]) rfl HE.out
   · obtain ⟨jva,jvc,hjv⟩ := own_slice1 hjs.1
     have hQ3 := HQ1.out.below hB13
     obtain ⟨hrf,hlen⟩ := HJ1.out _ hok
     have hrf':∀ p ∈ js,Pl.RowFor (Pl.scopes D is s.sources) p.1 := fun p hp=>hrf p.1 (List.mem_map_of_mem hp)
     simp only [List.length_map] at hlen
     have hlN:js.length <= N := by have := HN.out _ _ hok; simpa using this
     have HSf := hide (siftM X (Pl.scopes D is s.sources) (Pl.cond s.whr) js jv _ w3 hjs.mat hQ3.whr hQ3.whrF (fun p hp=>⟨(hrf' p hp).2.1,Nat.le_of_eq (hrf' p hp).1.symm⟩) (by omega))
     have HCh2:Hid (Pl.choose D s = Pl.chosen (Pl.scopes D is s.sources) s (js.map (·.1))) := by unfold Hid; rw [HCh.out,Pl.chosenOf_ok hok]
     have HRf := hide hrf'
     have HJs := hide hjs
     have HLen := hide hlen
     have HLN := hide hlN
     subst hjv
     clear hb3 hx3 hB3 hB13 hok hjs hQ3 hrf hrf' hlen hlN HCh HJ0 HJ1
     generalize hcols:Pl.scopes D is s.sources = cols at *
     have HCols := hide hcols
     clear hcols
     go_wp2_with fail
     refine (unhide HSf).mono ?_
     rintro e w4 ⟨hb4,hpost⟩
     have hx4 := below_blk hb4 hz3 HX3.out
     have hB4:Below w.heap.size w w4 := HB3.out.trans (hb4.mono HB3.out.size)
     have hB14:Below w1.heap.size w1 w4 := HB13.out.trans (hb4.mono HB13.out.size)
     have HB4 := hide hB4
     have HX4 := hide hx4
     have HB14 := hide hB14
     have hz4 := lt_of_blk hx4
     have hz34 := hb4.size
     clear HSf
     rcases hpost with ⟨er,herr,rfl⟩ | ⟨z,v1,v2,hok,rfl,hv1,_,_⟩
     · have hne:((er:Int) != 0) = true := by have := Pl.siftP_no0 herr; simp; omega
       have HE:Hid (PostSel w (Pl.choose D s) (.returned (.tuple #[.slice none 0 0,.int .i64 (er:Nat)])) w4) := ⟨hB4,.inl ⟨er,by rw [HCh2.out,Pl.chosen_1 herr],rfl⟩⟩
       clear herr hb4 hx4 hB4 hB14
       go_wp2_with fail
       exact bodyPost_ret (v := .tuple #[.slice none 0 0,.int .i64 (er:Nat)]) (by simp [results,Tryz.results69,go_sem]) rfl HE.out
     · obtain ⟨zm,_,zl⟩ := Pl.siftP_mem hok
       obtain ⟨v1a,v1c,hv1e⟩ := own_slice1 hv1
       obtain ⟨v2a,v2n,v2c,hv2e⟩:∃ a n c,v2 = .slice a n c := own_slice ‹_›
       have y3 := blk_cell hx4 3
       simp at y3
       have hS4 := HS.out.below hB4
       have d4 := blk_cell hS4.blk 4
       simp at d4
       have hn4 := lt_of_blk hS4.blk
       obtain ⟨oa,oc,ho⟩ := hS4.keys.1.slice
       have HIo:Hid (∀ W,Below w4.heap.size w4 W -> Calls Tryz.prog 112 #[v1,.slice ova os1.length ovc,o] W (PostOrd W (Pl.evRows cols (os1.map (·.1)) (z.1.map (·.1))) z.1 (dsOf ks))) := fun W hW=>by
         have hbw3:Below w3.heap.size w3 W := hb4.trans (hW.mono hz34)
         have hSW := hS4.below hW
         have hQW := HQ1.out.below (hB14.trans (hW.mono hB14.size))
         have hE := hQW.ordsE
         have hlk:os1.length = ks.length := by
           have h1 := congrArg List.length hE
           have h2 := congrArg List.length hSW.keysE
           simp at h1 h2
           omega
         exact inOrderM X N HSt cols os1 z.1 ks v1 _ o W (mat_own (own_below hW hv1) (fun p hp=>own_rows (f := vC) (fun _=>rfl) (own_below hbw3 (HJs.out.2 p (zm p hp)).1) (Nat.le_refl _))) (by rw [<- HCols.out]; exact hQW.ords) hSW.keys.1 (fun k hk=>(hSW.keys.2 k hk).ptr) hlk (by rw [<- HCols.out]; exact hQW.ordsF) (fun p hp=>HRf.out p (zm p hp)) (by have := HLN.out; omega) hN1 (by have h1 := hSW.ok.klen; have h2 := congrArg List.length hSW.keysE; simp at h2; omega) (by have h1 := HkL.out; have h2 := congrArg List.length hSW.keysE; simp at h2; omega)
       have HOk4 := hide hok
       have HZm := hide zm
       have HZl := hide zl
       have Hb4 := hide hb4
       rw [hv1e,ho] at HIo
       rw [ho] at d4
       rw [hv1e,hv2e]
       clear hb4 hx4 hB4 hB14 hok hS4 hv1 hv1e hv2e ho zm zl
       have HBd:Hid (Below w4.heap.size w4 w4.drew) := (Below.refl _ _).drew
       go_upto_region 10 with fail
       go_region_law (refine step_call3 rfl 112 (.tmp 39) (.tmp 41) (.tmp 45) _ rfl (.slice v1a z.1.length v1c) (.slice ova os1.length ovc) (.slice oa ks.length oc) (ent_inOrder _ _) (by simp [Act.eval,Act.put]) (by simp [Act.eval,Act.put]) (by simp [Act.eval,Act.put]) _ (ord_ret ((unhide HIo) _ HBd.out)) ?_
                      rintro v5 w5 ⟨a5,er5,rfl,hp5⟩
                      have HP5 := hide hp5
                      clear hp5)
       all_goals
         obtain ⟨hb5',hpost⟩ := HP5.out
         have hb5:Below w4.heap.size w4 w5 := HBd.out.trans hb5'
         have hB5:Below w.heap.size w w5 := HB4.out.trans (hb5.mono HB4.out.size)
         have hB15:Below w1.heap.size w1 w5 := HB14.out.trans (hb5.mono HB14.out.size)
         have hx5 := below_blk hb5 hz4 HX4.out
         have HB5 := hide hB5
         have HX5 := hide hx5
         have hz5 := lt_of_blk hx5
         have y1 := blk_cell hx5 1
         simp at y1
         clear HP5 HIo hb5'
         rcases hpost with ⟨er,herr,he⟩ | ⟨ranks,qs,v',hr,hq,hm,hl,he,hown⟩
         · simp at he
           obtain ⟨rfl,rfl⟩ := he
           have hne:((er:Int) != 0) = true := by have := Pl.evRows_no0 herr; simp; omega
           have HE:Hid (PostSel w (Pl.choose D s) (.returned (.tuple #[.slice none 0 0,.int .i64 (er:Nat)])) w5) := ⟨hB5,.inl ⟨er,by rw [HCh2.out]; exact Pl.chosen_2 HOk4.out (by rw [<- HQ1.out.ordsE]; exact herr),rfl⟩⟩
           clear herr hb5 hx5 hB5 hB15
           go_wp2_with fail
           exact bodyPost_ret (v := .tuple #[.slice none 0 0,.int .i64 (er:Nat)]) (by simp [results,Tryz.results69,go_sem]) rfl HE.out
         · simp at he
           obtain ⟨rfl,rfl⟩ := he
           obtain ⟨a5a,a5c,ha5⟩ := own_slice1 hown
           have hQ5 := HQ1.out.below hB15
           have hb35:Below w3.heap.size w3 w5 := Hb4.out.trans (hb5.mono hz34)
           have hql:qs.length <= 20000 := by have := HZl.out; have := HLen.out; omega
           have hvl:vs1.length <= 1000 := by
             have h1 := congrArg List.length hQ5.valsE
             have h2 := vals_len HS.out.ok (Pl.scopes D is s.sources) (by
               have k1 := colsAt_len HDb.out.ok is s.sources hQ5.is_.2
               have k2 := HS.out.srcs.len
               have k3 := congrArg List.length HS.out.srcsE
               have k4 := hQ5.is_.1
               simp at k3
               omega)
             simp at h1
             omega
           have HRr := hide (reckonRowsM X cols vs1 qs a5 (.slice vva vs1.length vvc) w5 (mat_own hown (fun p hp=>own_rows (f := vC) (fun _=>rfl) (own_below hb35 (HJs.out.2 p (HZm.out p (hm p hp))).1) (Nat.le_refl _))) (by rw [<- HCols.out]; exact hQ5.vals) (by rw [<- HCols.out]; exact hQ5.valsF) (fun p hp=>⟨(HRf.out p (HZm.out p (hm p hp))).2.1,Nat.le_of_eq (HRf.out p (HZm.out p (hm p hp))).1.symm⟩) (by omega) hvl)
           have HEq:Hid (Pl.evRows cols (vs1.map (·.1)) (qs.map (·.1)) = Pl.evRows cols (Pl.valuesOf s cols) (Pl.sorted (z.1.map (·.1)) ranks (s.keys.map (·.mark)))) := by
             unfold Hid
             rw [hq,HS.out.keysD,hQ5.valsE,HCols.out]
           have HRk:Hid (Pl.evRows cols (s.keys.map (·.tree)) (z.1.map (·.1)) = .ok ranks) := by unfold Hid; rw [<- hQ5.ordsE]; exact hr
           have HOkR:Hid (∀ out,Pl.evRows cols (vs1.map (·.1)) (qs.map (·.1)) = .ok out -> ∀ v ∈ out,v.length <= 1000 /\ Pl.okRow v) := by
             intro out ho v hv
             have h1 := (Pl.evRows_ok (fun t ht=>by obtain ⟨p,hp,rfl⟩ := List.mem_map.1 ht; exact (hQ5.valsF p hp).1) (fun r hr' => by
               obtain ⟨p,hp,rfl⟩ := List.mem_map.1 hr'
               exact HRf.out p (HZm.out p (hm p hp))) ho).2 v hv
             refine ⟨?_,h1.2⟩
             have h2 := h1.1
             simp at h2
             omega
           have HQl := hide hql
           rw [ha5] at HRr
           rw [ha5]
           clear hr hq hm hl hown ha5 hQ5 hb35 hql hvl hb5 hx5 hB5 hB15
           go_wp2_with fail
           refine (unhide HRr).mono ?_
           rintro e w6 ⟨hb6,hpost⟩
           have hB6:Below w.heap.size w w6 := HB5.out.trans (hb6.mono HB5.out.size)
           have HB6 := hide hB6
           have hz6 := hb6.size
           clear HRr
           rcases hpost with ⟨er,herr,rfl⟩ | ⟨rs,rv,hrs,rfl,hrown,hnew⟩
           · have hne:((er:Int) != 0) = true := by have := Pl.evRows_no0 herr; simp; omega
             have HE:Hid (PostSel w (Pl.choose D s) (.returned (.tuple #[.slice none 0 0,.int .i64 (er:Nat)])) w6) := ⟨hB6,.inl ⟨er,by rw [HCh2.out]; exact Pl.chosen_3 HOk4.out HRk.out (by rw [<- HEq.out]; exact herr),rfl⟩⟩
             clear herr hb6 hB6
             go_wp2_with fail
             exact bodyPost_ret (v := .tuple #[.slice none 0 0,.int .i64 (er:Nat)]) (by simp [results,Tryz.results69,go_sem]) rfl HE.out
           · obtain ⟨rva,rvc,hrv⟩ := own_slice1 hrown
             have HCh3:Hid (Pl.choose D s = .ok (Pl.window (if s.distinct = true then Pl.once (rs.map (·.1)) else rs.map (·.1)) s.offset s.limit)) := by
               unfold Hid; rw [HCh2.out]; exact Pl.chosen_4 HOk4.out HRk.out (by rw [<- HEq.out]; exact hrs)
             have hrl:rs.length <= 20000 := by
               have h1 := evRows_len hrs
               have h2 := HQl.out
               simp at h1
               omega
             have hS6 := HS.out.below hB6
             have hoff := hS6.ok.offset
             have hlim := hS6.ok.limit
             have HWin:Hid (∀ (W:World) (fs:List Pl.PRow) (fv:Value) (base:Nat),Below w6.heap.size w6 W -> W.ownsRow base 32 1 fv fs.length (sndC fs) -> fs.Sublist rs -> fs.map (·.1) = (if s.distinct = true then Pl.once (rs.map (·.1)) else rs.map (·.1)) ->
                 Calls Tryz.prog 115 #[fv,.int .i64 s.offset,.int .i64 (limV s.limit)] W fun e w' => ∃ v,e = .returned v /\ ((∃ a n c,v = .slice a n c) /\ PostSel w (Pl.choose D s) (.returned (.tuple #[v,.int .i64 0])) w')) := by
               intro W fs fv base hW hfo hsub hE
               have hfl:fs.length <= 20000 := Nat.le_trans hsub.length_le hrl
               have e1:((s.offset.toNat:Nat):Int) = s.offset := Int.toNat_of_nonneg hoff.1
               have e2:(((limV s.limit).toNat:Nat):Int) = limV s.limit := by
                 refine Int.toNat_of_nonneg ?_
                 unfold limV
                 rcases hlim with h | h
                 · rw [if_pos h]; omega
                 · split <;> omega
               have hw := windowM fs base fv s.offset.toNat (limV s.limit).toNat W hfo (fun q hq=>own_slice (hnew.1 q (hsub.subset hq))) (by omega)
               rw [e1,e2] at hw
               refine hw.mono ?_
               rintro e w' ⟨hb,u',rfl,hown'⟩
               have hb':Below w6.heap.size w6 w' := hW.trans (hb.mono hW.size)
               refine ⟨u',rfl,own_slice hown',hB6.trans (hb'.mono hB6.size),.inr ⟨part fs s.offset.toNat (limV s.limit).toNat,u',?_,rfl,own_base hown' (by have := hW.size; have := hB6.size; omega),((hnew.below hb').sub ((part_sub _ _ _).trans hsub)).low (by have := HB5.out.size; omega)⟩⟩
               rw [HCh3.out,part_window fs s.offset s.limit hoff.1 (hlim.imp id And.left) hfl,hE]
             have d0 := blk_cell hS6.blk 0
             simp at d0
             have hn6 := lt_of_blk hS6.blk
             have HR6 := hide (And.intro hrown hnew)
             have Hb6 := hide hb6
             subst hrv
             cases hdi:s.distinct with
             | false =>
               have d5 := blk_cell hS6.blk 5
               have d6 := blk_cell hS6.blk 6
               simp at d5 d6
               rw [hdi] at d0 HWin
               have HCl := hide ((unhide HWin) w6.drew rs _ _ (Below.refl _ _).drew (own_below (Below.refl _ _).drew hrown) (List.Sublist.refl _) rfl)
               clear hrs hrown hnew hb6 hB6 hS6 hdi HWin HEq HRk HCh3 HCh2
               go_upto_region 18 with fail
               go_region_law (refine step_call3 rfl 115 (.tmp 68) (.tmp 72) (.tmp 76) _ rfl (.slice rva rs.length rvc) (.int .i64 s.offset) (.int .i64 (limV s.limit)) (ent_window _ _) (by simp [Act.eval,Act.put]) (by simp [Act.eval,Act.put]) (by simp [Act.eval,Act.put]) _ (unhide HCl) ?_
                              rintro v8 w8 ⟨⟨va8,vn8,vc8,rfl⟩,hp8⟩
                              have HP8 := hide hp8
                              clear hp8)
               all_goals go_wp2_with fail
               all_goals exact bodyPost_ret (v := .tuple #[.slice va8 vn8 vc8,.int .i64 0]) (by simp [results,Tryz.results69,go_sem,Act.put]) rfl HP8.out
             | true =>
               have HO1 := hide ((HOn.out hdi) rs _ _ w6 ((HPw.out hdi).keep (hB6.block _ (HPw.out hdi).lt)) hrown hnew hrl (fun q hq=>HOkR.out _ hrs q.1 (List.mem_map.2 ⟨q,hq,rfl⟩)))
               rw [hdi] at d0 HWin
               clear hrs hrown hnew hB6 hdi HEq HRk HCh3 HCh2 hb6
               go_wp2_with fail
               refine (unhide HO1).mono ?_
               rintro e w7 ⟨hb7,ts,tv,rfl,hts,hsub,hown7⟩
               obtain ⟨ta,tc,htv⟩ := own_slice1 hown7
               subst htv
               have hS7 := hS6.below hb7
               have d5 := blk_cell hS7.blk 5
               have d6 := blk_cell hS7.blk 6
               simp at d5 d6
               have hn7 := lt_of_blk hS7.blk
               have HCl := hide ((unhide HWin) w7.drew ts _ _ hb7.drew (own_below (Below.refl _ _).drew hown7) hsub (by simpa using hts))
               clear hb7 hts hsub hown7 hS7 hS6 HWin HO1
               go_upto_region 18 with fail
               go_region_law (refine step_call3 rfl 115 (.tmp 68) (.tmp 72) (.tmp 76) _ rfl (.slice ta ts.length tc) (.int .i64 s.offset) (.int .i64 (limV s.limit)) (ent_window _ _) (by simp [Act.eval,Act.put]) (by simp [Act.eval,Act.put]) (by simp [Act.eval,Act.put]) _ (unhide HCl) ?_
                              rintro v8 w8 ⟨⟨va8,vn8,vc8,rfl⟩,hp8⟩
                              have HP8 := hide hp8
                              clear hp8)
               all_goals go_wp2_with fail
               all_goals exact bodyPost_ret (v := .tuple #[.slice va8 vn8 vc8,.int .i64 0]) (by simp [results,Tryz.results69,go_sem,Act.put]) rfl HP8.out
theorem tab_put {w w4:World} {M:Nat -> Prop} {b:Nat} {lay:List Lay} {D:Pl.DB} (h:DbW w M b lay D) {i:Nat} {l:Lay} {t:Pl.Tab} (hl:lay[i]? = some l) (ht:D[i]? = some t) {rows:List (List Pl.V)} {us:List Value} {v':Value} (hb:Below w.heap.size w w4)
   (hown:w4.ownsRow w.heap.size 32 1 v' rows.length us) (hempty:rows = [] -> v' = .slice none 0 0) (heach:∀ (j:Nat) (r:List Pl.V) (u:Value),rows[j]? = some r -> us[j]? = some u -> RowO w4 (grown M w w4) r u) (hok:Pl.okDB (Pl.setRows D i rows)) :
   (∃ cv,w4.heap[l.n]? = some (.cells #[.string ⟨t.name.toArray⟩,cv,l.rv] 94)) /\
   DbStep w.heap.size w M b (Pl.setRows D i rows) (w4.setCell ⟨l.n,2,none⟩ v') (grown M w w4) (lay.set i ⟨l.n,v',us⟩) := by
 have hT := h.tabs i l t hl ht
 obtain ⟨cv,g2,g3,g4⟩ := hT.blk
 have hz4 := hb.size
 have hln := h.lt _ hT.own
 have hb4:w4.heap[l.n]? = some (.cells #[.string ⟨t.name.toArray⟩,cv,l.rv] 94) := (hb.block _ hln).trans g2
 refine ⟨⟨cv,hb4⟩,?_⟩
 have hkeep:∀ k,k < w.heap.size -> k ≠ l.n -> (w4.setCell ⟨l.n,2,none⟩ v').heap[k]? = w.heap[k]? := fun k hk hne=>by
   rw [Below.heap_setCell _ _ _ _ hne]; exact hb.block k hk
 have hkO:∀ {base:Nat} {e:TypeId} {size n:Nat} {v:Value} {xs:List Value},w4.ownsRow base e size v n xs -> e ≠ 94 -> ∀ k,v.ownBlock = some k -> (w4.setCell ⟨l.n,2,none⟩ v').heap[k]? = w4.heap[k]? := by
   intro base e size n v xs hov h1 k hk
   obtain ⟨C,m,hc⟩ := own_ty hov hk
   exact Below.heap_setCell _ _ _ _ (ty_ne hc hb4 h1)
 have hM:∀ k,M k -> grown M w w4 k := fun k hk=>.inl hk
 refine ⟨h.put hl ht hM (fun k hk=>?_) (fun k hk hne hne2=>hkeep k (h.lt k hk) hne) ?_ (fun k hk=>.inr (hown.lt k hk).1) hok,hM,fun k hk=>hk.imp id (fun h=>h.1),?_⟩
 · rw [size_set]
   rcases hk with hk | hk
   · have := h.lt k hk; omega
   · exact hk.2
 · refine ⟨hM _ hT.own,⟨cv,?_,?_,fun k hk=>hM k (g4 k hk)⟩,?_,fun k hk=>.inr (hown.lt k hk),hempty,fun j r x hr hx=>?_⟩
   · have := blk_set hb4 2 v'
     simpa using this
   · exact own_at (own_below hb g3) (hkO (own_below hb g3) (by decide))
   · exact own_at (own_base hown (Nat.zero_le _)) (hkO hown (by decide))
   · have := heach j r x hr hx
     exact this.keep (fun k hk=>hk) (hkO this.1 (by decide))
 · refine ⟨hb.os,hb.tape,hb.output,by rw [size_set]; omega,fun k hk=>hkeep k hk.1 (fun e=>hk.2 (e ▸ hT.own))⟩
theorem doDelete_1 {D:Pl.DB} {s:Pl.St} (h:Pl.tabAt D s.table = none):Pl.doDelete D s = (D,Pl.no 2) := by unfold Pl.doDelete; rw [h]
theorem doDelete_2 {D:Pl.DB} {s:Pl.St} {i er:Nat} (h:Pl.tabAt D s.table = some i) (h2:Pl.tcAs (Pl.scope (Pl.tabD D i).name (Pl.tabD D i)) (Pl.cond s.whr) 3 = some er):Pl.doDelete D s = (D,Pl.no er) := by unfold Pl.doDelete; rw [h]; simp only [h2]
theorem doDelete_3 {D:Pl.DB} {s:Pl.St} {i er:Nat} (h:Pl.tabAt D s.table = some i) (h2:Pl.tcAs (Pl.scope (Pl.tabD D i).name (Pl.tabD D i)) (Pl.cond s.whr) 3 = none) (h3:Pl.sift (Pl.scope (Pl.tabD D i).name (Pl.tabD D i)) (Pl.cond s.whr) (Pl.tabD D i).rows = .error er):Pl.doDelete D s = (D,Pl.no er) := by unfold Pl.doDelete; rw [h]; simp only [h2,h3]
theorem doDelete_4 {D:Pl.DB} {s:Pl.St} {i:Nat} {z:List (List Pl.V) × List (List Pl.V)} (h:Pl.tabAt D s.table = some i) (h2:Pl.tcAs (Pl.scope (Pl.tabD D i).name (Pl.tabD D i)) (Pl.cond s.whr) 3 = none) (h3:Pl.sift (Pl.scope (Pl.tabD D i).name (Pl.tabD D i)) (Pl.cond s.whr) (Pl.tabD D i).rows = .ok z):Pl.doDelete D s = (Pl.setRows D i z.2,⟨[],z.1.length,0⟩) := by unfold Pl.doDelete; rw [h]; simp only [h2,h3]
theorem siftP_pair {cols:List Pl.Col} {c:Pl.T} {ps:List Pl.PRow} {z:List Pl.PRow × List Pl.PRow} (h:Pl.siftP cols c ps = .ok z):Pl.sift cols c (ps.map (·.1)) = .ok (z.1.map (·.1),z.2.map (·.1)) := by rw [Pl.siftP_sift,h]; rfl
theorem ent_condition (vs:Array Value) (w:World):(callFunc 105 vs).run Tryz.prog w = .ok (.enter 105 vs) w := by
 have h1:(Tryz.f105.name == "runtime.NumGoroutine") = false := by kernel_rfl
 have h2 : Tryz.f105.body.isNone = false := by kernel_rfl
 have h1':¬ Tryz.f105.name = "runtime.NumGoroutine" := by simpa using h1
 have h2':¬ Tryz.f105.body = none := by intro e; rw [e] at h2; cases h2
 simp [callFunc,go_sem,Tryz.func105,h1',h2']
theorem ent_sift (vs:Array Value) (w:World):(callFunc 107 vs).run Tryz.prog w = .ok (.enter 107 vs) w := by
 have h1:(Tryz.f107.name == "runtime.NumGoroutine") = false := by kernel_rfl
 have h2 : Tryz.f107.body.isNone = false := by kernel_rfl
 have h1':¬ Tryz.f107.name = "runtime.NumGoroutine" := by simpa using h1
 have h2':¬ Tryz.f107.body = none := by intro e; rw [e] at h2; cases h2
 simp [callFunc,go_sem,Tryz.func107,h1',h2']
theorem scopeRows {w:World} {M:Nat -> Prop} {b:Nat} {lay:List Lay} {D:Pl.DB} (h:DbW w M b lay D) {i:Nat} {l:Lay} (hl:lay[i]? = some l) (hi:D[i]? = some (Pl.tabD D i)) (hok:Pl.okTab (Pl.tabD D i)) (src:List UInt8) :
   Calls Tryz.prog 106 #[.pointer (some ⟨l.n,0,none⟩),.string ⟨src.toArray⟩] w fun e w' => ∃ v,e = .returned v /\ Below w.heap.size w w' /\ (∃ a n c,v = .slice a n c) /\ RowsW w' w'.heap.size 3 colC (Pl.scope src (Pl.tabD D i)) v := by
 have hT := h.tabs i l _ hl hi
 obtain ⟨cv,hblk,hcv,_⟩ := hT.blk
 have c1 := blk_cell hblk 1
 simp at c1
 refine (scopeM src _ _ cv w (lt_of_blk hblk) c1 (tcsC_rows hcv) (by have := hok.ncols; omega)).mono ?_
 rintro e w' ⟨hb,v,rfl,hown⟩
 exact ⟨v,rfl,hb,own_slice hown,by rw [scope_map]; exact own_rows (f := colC) (fun _=>rfl) hown (Nat.le_refl _)⟩
theorem cond_ret {W:World} {f:Nat} {args:Array Value} {t:Pl.T} {cols:List Pl.Col} (h:Calls Tryz.prog f args W (PostCompAs W t cols 3)):Calls Tryz.prog f args W fun e w' => ∃ v,e = .returned v /\ ∃ (p n c:_) (er:Nat),v = .tuple #[.agg #[.slice p n c],.int .i64 (er:Nat)] /\ Below W.heap.size W w' /\ ((Pl.tcAs cols t 3 = some er) \/ (er = 0 /\ Pl.tcAs cols t 3 = none /\ ProgP w' (newP W.heap.size w'.heap.size) cols t (.slice p n c))) := by
 refine h.mono ?_
 rintro e w' ⟨hb,⟨er,h1,rfl⟩ | ⟨cv,h1,rfl,h2⟩⟩
 · exact ⟨_,rfl,_,_,_,er,rfl,hb,.inl h1⟩
 · obtain ⟨p,n,c,rfl⟩ := h2.slice
   exact ⟨_,rfl,p,n,c,0,rfl,hb,.inr ⟨rfl,h1,h2⟩⟩
theorem tabMat {w:World} {M:Nat -> Prop} {l:Lay} {t:Pl.Tab} (hT:TabW w M l t):MatW w w.heap.size (t.rows.zip l.us) l.rv /\ (t.rows.zip l.us).map (·.1) = t.rows /\ ∀ p ∈ t.rows.zip l.us,RowO w M p.1 p.2 := by
 have hl:l.us.length = t.rows.length := by have := hT.rows.1; omega
 have hz:(t.rows.zip l.us).map (·.1) = t.rows := zip_fst (Nat.le_of_eq hl.symm)
 have hs:sndC (t.rows.zip l.us) = l.us := by
   unfold sndC
   have:∀ (a:List (List Pl.V)) (b:List Value),b.length = a.length -> (a.zip b).map (·.2) = b := fun a=>by
     induction a with
     | nil=>intro b hb; simp at hb; subst hb; rfl
     | cons x a ih=>intro b hb; cases b with
       | nil=>rfl
       | cons y b=>simp [ih b (by simpa using hb)]
   exact this _ _ hl
 have hro:∀ p ∈ t.rows.zip l.us,RowO w M p.1 p.2 := fun p hp=>by
   obtain ⟨j,hj,hjq⟩ := List.getElem_of_mem hp
   have hjz:(t.rows.zip l.us)[j]? = some p := by rw [<- hjq]; exact List.getElem?_eq_getElem hj
   rw [List.getElem?_zip_eq_some] at hjz
   exact hT.each j p.1 p.2 hjz.1 hjz.2
 refine ⟨mat_own (base := 0) ?_ (fun p hp=>own_rows (f := vC) (fun _=>rfl) (hro p hp).1 (Nat.le_refl _)),hz,hro⟩
 rw [hs,List.length_zip,hl,Nat.min_self]
 exact hT.rows
theorem sift_ret {W:World} {f:Nat} {args:Array Value} {o:Pl.Out (List Pl.PRow × List Pl.PRow)} (h:Calls Tryz.prog f args W (PostSift W o)):Calls Tryz.prog f args W fun e w' => ∃ v,e = .returned v /\ ∃ (a1:Option Addr) (m1 c1:Nat) (a2:Option Addr) (m2 c2:Nat) (er:Nat),v = .tuple #[.slice a1 m1 c1,.slice a2 m2 c2,.int .i64 (er:Nat)] /\ Below W.heap.size W w' /\ (o = .error er \/ (er = 0 /\ ∃ z,o = .ok z /\ m1 = z.1.length /\ w'.ownsRow W.heap.size 32 1 (.slice a1 m1 c1) z.1.length (sndC z.1) /\ w'.ownsRow W.heap.size 32 1 (.slice a2 m2 c2) z.2.length (sndC z.2) /\ (z.2 = [] -> (.slice a2 m2 c2:Value) = .slice none 0 0))) := by
 refine h.mono ?_
 rintro e w' ⟨hb,⟨er,h1,rfl⟩ | ⟨z,v1,v2,h1,rfl,h2,h3,h4⟩⟩
 · exact ⟨_,rfl,_,_,_,_,_,_,er,rfl,hb,.inl h1⟩
 · obtain ⟨a1,c1,e1⟩ := own_slice1 h2
   obtain ⟨a2,c2,e2⟩ := own_slice1 h3
   subst e1; subst e2
   exact ⟨_,rfl,a1,_,c1,a2,_,c2,0,rfl,hb,.inr ⟨rfl,z,h1,rfl,h2,h3,h4⟩⟩
def CondR (cols:List Pl.Col) (t:Pl.T) (wx:World) (p:Option Addr) (n c er:Nat):Prop := Pl.tcAs cols t 3 = some er \/ (er = 0 /\ Pl.tcAs cols t 3 = none /\ ProgW wx wx.heap.size cols t (.slice p n c))
theorem del_late {w w4:World} {cols:List Pl.Col} {t:Pl.T} {p:Option Addr} {n c er K:Nat} (hb:Below w.heap.size w w4) (hp:Pl.tcAs cols t 3 = some er \/ (er = 0 /\ Pl.tcAs cols t 3 = none /\ ProgP w4 (newP K w4.heap.size) cols t (.slice p n c))) :
   Below w.heap.size w (w4.alloc (.cells #[.slice p n c] 204)) /\ (w4.alloc (.cells #[.slice p n c] 204)).heap[w4.heap.size]? = some (.cells #[.slice p n c] 204) /\ CondR cols t (w4.alloc (.cells #[.slice p n c] 204)) p n c er :=
 ⟨hb.alloc hb.size _,blk_new _ _,hp.imp id (fun ⟨h1,h2,h3⟩=>⟨h1,h2,(h3.prog (fun k hk=>hk.2)).below ((Below.refl _ _).alloc (Nat.le_refl _) _)⟩)⟩
theorem del_set {w w4:World} {cols:List Pl.Col} {t:Pl.T} {p:Option Addr} {n c er K xb:Nat} (hb:Below w.heap.size w w4) (hx:w4.heap[xb]? = some (.cells #[.slice none 0 0] 204)) (hxw:w.heap.size <= xb) (hK:xb < K) (hp:Pl.tcAs cols t 3 = some er \/ (er = 0 /\ Pl.tcAs cols t 3 = none /\ ProgP w4 (newP K w4.heap.size) cols t (.slice p n c))) :
   Below w.heap.size w (w4.setCell ⟨xb,0,none⟩ (.slice p n c)) /\ (w4.setCell ⟨xb,0,none⟩ (.slice p n c)).heap[xb]? = some (.cells #[.slice p n c] 204) /\ CondR cols t (w4.setCell ⟨xb,0,none⟩ (.slice p n c)) p n c er := by
 refine ⟨hb.setCell hxw _,by simpa using blk_set hx 0 (.slice p n c),hp.imp id (fun ⟨h1,h2,h3⟩=>⟨h1,h2,?_⟩)⟩
 refine ProgP.prog (Q := newP K w4.heap.size) (RowsP.keep h3 (fun k hk=>Below.heap_setCell _ _ _ _ (show k ≠ xb by have := hk.1; omega))) (fun k hk=>by rw [size_set]; exact hk.2)
theorem deleteM (X:MachLib) (lo:Nat) (w:World) (M:Nat -> Prop) (b n:Nat) (lay:List Lay) (D:Pl.DB) (s:Pl.St) (v:Value) (h:ExIn w M b lay D) (hn:w.heap[n]? = some (.cells #[.string ⟨s.table.toArray⟩,v] 201)) (hv:TrW w w.heap.size s.whr v) (hs:Pl.okSt s) (hlo:lo <= w.heap.size) :
   Calls Tryz.prog 67 #[.pointer (some ⟨b,0,none⟩),.pointer (some ⟨n,0,none⟩)] w (PostCh lo w M b (Pl.doDelete D s)) := by
 have hnz := lt_of_blk hn
 have n0 := blk_cell hn 0
 have n1 := blk_cell hn 1
 simp at n0 n1
 have HF := hide (findM s.table w M b lay D h.db)
 have HX := hide h
 have HV := hide hv
 have HS := hide hs
 generalize hD2:Pl.doDelete D s = out
 have HD2 := hide hD2
 have HNo:Hid (∀ er w',out = (D,Pl.no er) -> Below w.heap.size w w' -> PostCh lo w M b out (.returned (.tuple #[.int .i64 0,.int .i64 (er:Nat)])) w') := fun er w' ho hb=>by
   rw [ho]; exact ⟨rfl,M,lay,DbStep.below h.db hb⟩
 have HYes:Hid (∀ w' M' lay' D' (c:Int),out = (D',⟨[],c,0⟩) -> DbStep lo w M b D' w' M' lay' -> PostCh lo w M b out (.returned (.tuple #[.int .i64 c,.int .i64 0])) w') := fun w' M' lay' D' c ho hst=>by
   rw [ho]; exact ⟨rfl,M',lay',hst⟩
 generalize PostCh lo w M b out = Post at *
 obtain ⟨va,hva⟩ := hv.ptr
 subst hva
 clear hs hn h hv hD2
 cases hta:Pl.tabAt D s.table with
 | none =>
   rw [hta] at HF
   have HE := hide (HNo.out 2 w (by rw [<- HD2.out]; exact doDelete_1 hta) (Below.refl _ _))
   simp only [tabPtr] at HF
   go_enter Tryz.func67,Tryz.ntmps67
   go_wp2_with fail
   refine (unhide HF).mono ?_
   rintro e w1 ⟨rfl,rfl⟩
   go_wp2_with fail
   exact HE.out
 | some i =>
   obtain ⟨l,hl,htD,hptr⟩ := tab_of HX.out.db (Pl.tabAt_lt hta)
   rw [hta,hptr] at HF
   have hT := HX.out.db.tabs i l _ hl htD
   have hokT := HX.out.db.ok.2 _ (Pl.tabD_mem (Pl.tabAt_lt hta))
   obtain ⟨cv,hlb,hcv,_⟩ := hT.blk
   have l0 := blk_cell hlb 0
   have l2 := blk_cell hlb 2
   simp at l0 l2
   have hlz := lt_of_blk hlb
   have HTA := hide hta
   have HL := hide hl
   have HTD := hide htD
   have HOkT := hide hokT
   have HScope:Hid (∀ W',Below w.heap.size w W' -> _) := fun W' hW=>scopeRows (HX.out.db.below hW) hl htD hokT (Pl.tabD D i).name
   have HCond:Hid (∀ W' v',Below w.heap.size w W' -> RowsW W' W'.heap.size 3 colC (Pl.scope (Pl.tabD D i).name (Pl.tabD D i)) v' -> _) := fun W' v' hW hr=>cond_ret (conditionM s.whr (Pl.scope (Pl.tabD D i).name (Pl.tabD D i)) (.pointer va) v' W' ⟨(HX.out.below hW).rules,(HX.out.below hW).glob.2,(HV.out.keep (fun k hk=>hW.block k hk)).more hW.size,HS.out.whr,hr,by rw [Pl.scope_len]; have := hokT.ncols; omega⟩)
   have HBd:Hid (Below w.heap.size w w.drew) := (Below.refl _ _).drew
   have HBe:Hid (Below w.heap.size w (w.alloc (.cells #[.slice none 0 0] 204)).drew) := ((Below.refl _ _).alloc (Nat.le_refl _) _).drew
   have HBx:Hid ((w.alloc (.cells #[.slice none 0 0] 204)).drew.heap[w.heap.size]? = some (.cells #[.slice none 0 0] 204)) := blk_new w _
   clear hl htD hptr hT hta hlb hcv hokT
   go_enter Tryz.func67,Tryz.ntmps67
   go_wp2_with fail
   refine (unhide HF).mono ?_
   rintro e w1 ⟨rfl,h1⟩
   rw [h1]
   clear h1 w1 HF
   go_upto_region 4 with fail
   go_cut [7,8] (fun s7 s8 wx=>∃ (xb:Nat) (p4:Option Addr) (n4 c4 er4:Nat),s7 = .pointer (some ⟨xb,0,none⟩) /\ s8 = .int .i64 (er4:Nat) /\ Hid (Below w.heap.size w wx /\ wx.heap[xb]? = some (.cells #[.slice p4 n4 c4] 204) /\ CondR (Pl.scope (Pl.tabD D i).name (Pl.tabD D i)) (Pl.cond s.whr) wx p4 n4 c4 er4))
   case first =>
     go_region_law (first
       | (refine step_call2 rfl 106 (.tmp 24) (.tmp 28) _ rfl (.pointer (some ⟨l.n,0,none⟩)) (.string ⟨(Pl.tabD D i).name.toArray⟩) (ent_scope _ _) (by simp [Act.eval,Act.put]) (by simp [Act.eval,Act.put]) _ ((unhide HScope) _ HBd.out) ?_
          rintro v3 w3 ⟨hb3,⟨a3,n3,c3,rfl⟩,hr3⟩
          have HB3 := hide (HBd.out.trans hb3)
          have HR3 := hide hr3
          have b3n:n < w3.heap.size := (by have := HB3.out.size; omega)
          have c3n := (World.cell?_of_block (HB3.out.block n hnz)).trans n1
          have HC3 := hide (Nat.le_refl 0)
          clear hb3 hr3)
       | (refine step_call2 rfl 106 (.tmp 24) (.tmp 28) _ rfl (.pointer (some ⟨l.n,0,none⟩)) (.string ⟨(Pl.tabD D i).name.toArray⟩) (ent_scope _ _) (by simp [Act.eval,Act.put]) (by simp [Act.eval,Act.put]) _ ((unhide HScope) _ HBe.out) ?_
          rintro v3 w3 ⟨hb3,⟨a3,n3,c3,rfl⟩,hr3⟩
          have HB3 := hide (HBe.out.trans (hb3.mono HBe.out.size))
          have HR3 := hide hr3
          have b3n:n < w3.heap.size := (by have := HB3.out.size; omega)
          have c3n := (World.cell?_of_block (HB3.out.block n hnz)).trans n1
          have HE3:Hid (w3.heap[w.heap.size]? = some (.cells #[.slice none 0 0] 204)) := (hb3.block _ (by simp [World.drew])).trans HBx.out
          clear hb3 hr3)
       | (refine step_call2 rfl 105 (.tmp 23) (.tmp 29) _ rfl (.pointer va) (.slice a3 n3 c3) (ent_condition _ _) (by simp [Act.eval,Act.put]) (by simp [Act.eval,Act.put]) _ ((unhide HCond) _ _ HB3.out HR3.out) ?_
          rintro v4 w4 ⟨p4,n4,c4,er4,rfl,hb4,hp4⟩
          have HB4 := hide (HB3.out.trans (hb4.mono HB3.out.size))
          have HP4 := hide hp4
          have hx4 := below_blk hb4 (lt_of_blk HE3.out) HE3.out
          have r0 := blk_cell hx4 0
          have rf := blk_frozen hx4 0
          simp at r0
          have rz := lt_of_blk hx4
          have HX4 := hide hx4
          have HZ4 := hide (lt_of_blk HE3.out)
          clear hb4 hp4 hx4)
       | (refine step_call2 rfl 105 (.tmp 23) (.tmp 29) _ rfl (.pointer va) (.slice a3 n3 c3) (ent_condition _ _) (by simp [Act.eval,Act.put]) (by simp [Act.eval,Act.put]) _ ((unhide HCond) _ _ HB3.out HR3.out) ?_
          rintro v4 w4 ⟨p4,n4,c4,er4,rfl,hb4,hp4⟩
          have HB4 := hide (HB3.out.trans (hb4.mono HB3.out.size))
          have HP4 := hide hp4
          have HLate := HC3
          clear hb4 hp4)
       | (refine step_call2 rfl 105 (.tmp 23) (.tmp 29) _ rfl (.pointer va) (.slice a3 n3 c3) (ent_condition _ _) (by simp [Act.eval,Act.put]) (by simp [Act.eval,Act.put]) _ ((unhide HCond) _ _ (HB3.out.alloc HB3.out.size (.cells #[.slice none 0 0] 204)) (HR3.out.below ((Below.refl _ _).alloc (Nat.le_refl _) (.cells #[.slice none 0 0] 204)))) ?_
          rintro v4 w4 ⟨p4,n4,c4,er4,rfl,hb4,hp4⟩
          have HB4 := hide ((HB3.out.alloc HB3.out.size (.cells #[.slice none 0 0] 204)).trans (hb4.mono (Nat.le_trans HB3.out.size (by simp))))
          have HP4 := hide hp4
          have hx4 := below_blk hb4 (by simp) (blk_new w3 (.cells #[.slice none 0 0] 204))
          have r0 := blk_cell hx4 0
          have rf := blk_frozen hx4 0
          simp at r0
          have rz := lt_of_blk hx4
          have HX4 := hide hx4
          have HMid := HC3
          clear hb4 hp4 hx4))
     all_goals go_wp2_with fail
     all_goals go_meet
     all_goals first
       | exact ⟨_,_,_,_,_,rfl,rfl,del_set HB4.out HX4.out (Nat.le_refl _) HZ4.out HP4.out⟩
       | exact ⟨_,_,_,_,_,rfl,rfl,del_set HB4.out HX4.out HB3.out.size (by simp) HP4.out⟩
       | exact ⟨_,_,_,_,_,rfl,rfl,del_late HB4.out HP4.out⟩
   case rest =>
     obtain ⟨xb,p4,n4,c4,er4,rfl,rfl,HCut⟩ := hcut
     obtain ⟨hb5,hx5,hc5⟩ := HCut.out
     clear HCut HScope HCond HBd HBe HBx
     rcases hc5 with her | ⟨rfl,htc,hprog⟩
     · have hne:((er4:Int) != 0) = true := by have := tcAs_err her; simp; omega
       have HE := hide (HNo.out er4 wc (by rw [<- HD2.out]; exact doDelete_2 HTA.out her) hb5)
       clear her hb5 hx5
       go_wp2_with fail
       exact HE.out
     · have hX5 := HX.out.below hb5
       have hT := hX5.db.tabs i l _ HL.out HTD.out
       obtain ⟨hm,hzf,hro⟩ := tabMat hT
       have hokT := HOkT.out
       have hrf:∀ p ∈ (Pl.tabD D i).rows.zip l.us,Pl.RowFor (Pl.scope (Pl.tabD D i).name (Pl.tabD D i)) p.1 := fun p hp=>(hokT.rows p.1 (by rw [<- hzf]; exact List.mem_map_of_mem hp)).src
       have hbd:Below wc.heap.size wc wc.drew := (Below.refl _ _).drew
       have hfine:Pl.Fine (Pl.scope (Pl.tabD D i).name (Pl.tabD D i)) (Pl.cond s.whr) := by
         obtain ⟨ty,h1,_⟩ := Pl.tcAs_ok htc
         exact ⟨Pl.cond_ok HS.out.whr,ty,h1⟩
       have HSf := hide (sift_ret (siftM X (Pl.scope (Pl.tabD D i).name (Pl.tabD D i)) (Pl.cond s.whr) _ l.rv _ wc.drew (hm.below hbd) (hprog.below hbd) hfine (fun p hp=>⟨(hrf p hp).2.1,Nat.le_of_eq (hrf p hp).1.symm⟩) (by rw [List.length_zip]; have := hokT.nrows; omega)))
       obtain ⟨cv5,hlb,hcv5,_⟩ := hT.blk
       have l2' := blk_cell hlb 2
       simp at l2'
       have hlz' := lt_of_blk hlb
       have x0 := blk_cell hx5 0
       simp at x0
       have hxz := lt_of_blk hx5
       have HTc := hide htc
       have HZf := hide hzf
       have HRo := hide hro
       have HRf := hide hrf
       have HB5 := hide hb5
       obtain ⟨ra,rc,hrv⟩ := own_slice1 hT.rows
       rw [hrv] at HSf l2'
       clear hb5 hx5 hX5 hT hm hzf hro hrf hokT hbd hfine hlb hcv5 hprog htc hrv l2
       go_upto_region 7 with fail
       go_region_law (refine step_call2 rfl 107 (.tmp 40) (.tmp 41) _ rfl (.slice ra (Pl.tabD D i).rows.length rc) (.agg #[.slice p4 n4 c4]) (ent_sift _ _) (by simp [Act.eval,Act.put]) (by simp [Act.eval,Act.put]) _ (unhide HSf) ?_
                      rintro v6 w6 ⟨a1,m1,c1,a2,m2,c2,er6,rfl,hb6,hp6⟩
                      have HB6 := hide hb6
                      have HP6 := hide hp6
                      clear hb6 hp6)
       all_goals
         have hb6:Below wc.heap.size wc w6 := Below.trans (Below.refl _ _).drew HB6.out
         have hB6:Below w.heap.size w w6 := HB5.out.trans (hb6.mono HB5.out.size)
         have HBB6 := hide hB6
         rcases HP6.out with herr | ⟨rfl,z,hz,hm1,h1,h2,h3⟩
         · have hne:((er6:Int) != 0) = true := by have := Pl.siftP_no0 herr; simp; omega
           have HE := hide (HNo.out er6 w6 (by rw [<- HD2.out]; refine doDelete_3 HTA.out HTc.out ?_; rw [<- HZf.out,Pl.siftP_sift,herr]; rfl) hB6)
           clear herr hb6 hB6 HP6 HSf HB6
           go_wp2_with fail
           exact HE.out
         · obtain ⟨_,hz2,hzl⟩ := Pl.siftP_mem hz
           have hzz := siftP_pair hz
           rw [HZf.out] at hzz
           have hil := Pl.tabAt_lt HTA.out
           have hokd:Pl.okDB (Pl.setRows D i (z.2.map (·.1))) := HX.out.db.ok.set hil (by
               have := HOkT.out.nrows
               rw [List.length_zip] at hzl
               simp
               omega) (fun r hr=>by
               obtain ⟨p,hp,rfl⟩ := List.mem_map.1 hr
               exact (HRf.out p (hz2 p hp)).unsrc)
           obtain ⟨⟨cv,hcv⟩,hst⟩ := tab_put (rows := z.2.map (·.1)) (us := sndC z.2) (v' := .slice a2 m2 c2) HX.out.db HL.out HTD.out hB6 (by rw [List.length_map]; exact own_base h2 (show w.heap.size <= wc.heap.size from HB5.out.size)) (fun e=>h3 (List.map_eq_nil_iff.1 e)) (fun j r u hr hu=>by
             rw [List.getElem?_map] at hr
             unfold sndC at hu
             rw [List.getElem?_map] at hu
             cases hj:z.2[j]? with
             | none=>rw [hj] at hr; cases hr
             | some p =>
               rw [hj] at hr hu
               cases hr; cases hu
               have hro := HRo.out p (hz2 p (List.mem_of_getElem? hj))
               exact (hro.keep (fun k hk=>hk) (fun k hk=>hb6.block k (hro.1.lt k hk).2)).keep (fun k hk=>.inl hk) (fun k _=>rfl)) hokd
           have HE := hide (HYes.out _ _ _ _ z.1.length (by rw [<- HD2.out]; have := doDelete_4 HTA.out HTc.out hzz; simpa using this) (hst.low hlo))
           have s2 := blk_cell hcv 2
           have sf := blk_frozen hcv 2
           simp at s2
           have sz := lt_of_blk hcv
           subst hm1
           clear hb6 hB6 HP6 HSf HB6 hz h1 h2 h3 hz2 hzl hzz hokd hcv hst l2' x0
           go_wp2_with fail
           exact HE.out
end Go.Proofs.YtojdpjpldokjmaaGreatDoor
namespace Go.Proofs.YtojdpjpldokjmaaGreatDoor.Pl
end Go.Proofs.YtojdpjpldokjmaaGreatDoor.Pl
namespace Go.Proofs.YtojdpjpldokjmaaGreatDoor
open Go.RowKit Go.Deep
set_option linter.unusedSimpArgs false
set_option linter.unusedVariables false
abbrev Sg := Nat × Pl.T × Value
def sgC (s:Sg):List Value := [.int .i64 (s.1:Nat),s.2.2]
theorem RowsW.sg {w:World} {hi:Nat} {ss:List Sg} {v:Value} (h:RowsW w hi 2 sgC ss v) {i:Nat} {s:Sg} (hs:ss[i]? = some s):∃ g cap,v = .slice (some ⟨g,0,none⟩) ss.length cap /\ g < hi /\
   w.cell? ⟨g,i * 2,none⟩ = some (.int .i64 (s.1:Nat)) /\ w.cell? ⟨g,i * 2 + 1,none⟩ = some s.2.2 := by
 obtain ⟨a,cap,rfl,h2⟩ := h
 obtain ⟨g,rfl,hg,h3⟩ := h2 (by rintro rfl; simp at hs)
 exact ⟨g,cap,rfl,hg,h3 i s hs 0 _ rfl,h3 i s hs 1 _ rfl⟩
def places (ss:List Sg):List Nat := ss.map (·.1)
theorem itAt_pairs {w:World} {rb:Nat} {sh:Pl.It -> Value -> List Value}:∀ {its:List Pl.It} {cs:List Value},ItAt w rb sh its cs -> ∃ ps:List (Pl.It × Value),ps.map (·.1) = its /\ cs = ps.flatMap (fun p=>sh p.1 p.2) /\ ∀ p ∈ ps,CTree w rb p.1.tree p.2
 | [],cs,h=>⟨[],rfl,h,by simp⟩
 | it :: its,cs,⟨a,rest,h1,h2,h3⟩=>by
   obtain ⟨ps,k1,k2,k3⟩ := itAt_pairs h3
   refine ⟨(it,.pointer a) :: ps,by simp [k1],by rw [h1,k2]; simp,fun p hp=>?_⟩
   rcases List.mem_cons.1 hp with rfl | hp
   · exact h2
   · exact k3 p hp
theorem its_pairs {w:World} {rb base:Nat} {e:TypeId} {size:Nat} {sh:Pl.It -> Value -> List Value} {its:List Pl.It} {v:Value} (h:ItsW w rb base e size sh its v):∃ ps:List (Pl.It × Value),ps.map (·.1) = its /\ w.ownsRow base e size v ps.length (ps.flatMap (fun p=>sh p.1 p.2)) /\ ∀ p ∈ ps,TrW w w.heap.size p.1.tree p.2 := by
 obtain ⟨cs,h1,h2⟩ := h
 obtain ⟨ps,k1,k2,k3⟩ := itAt_pairs h2
 refine ⟨ps,k1,?_,fun p hp=>(k3 p hp).tr (Nat.le_refl _)⟩
 rw [<- k2,<- List.length_map (f := fun p:Pl.It × Value=>p.1),k1]
 exact h1
theorem its_trees {w:World} {rb base:Nat} {its:List Pl.It} {v:Value} (h:ItsW w rb base 199 1 shV its v):∃ ts:List (Pl.T × Value),ts.map (·.1) = its.map (·.tree) /\ TreesW w w.heap.size ts v := by
 obtain ⟨ps,k1,k2,k3⟩ := its_pairs h
 refine ⟨ps.map (fun p=>(p.1.tree,p.2)),by rw [<- k1]; simp,?_,fun p hp=>?_⟩
 · refine own_rows (f := fun p:Pl.T × Value=>[p.2]) (fun _=>rfl) (base := base) (e := 199) ?_ (Nat.le_refl _)
   have e:(ps.map (fun p=>(p.1.tree,p.2))).flatMap (fun p:Pl.T × Value=>[p.2]) = ps.flatMap (fun p=>shV p.1 p.2) := by
     rw [List.flatMap_map]; rfl
   rw [e,List.length_map]
   exact k2
 · obtain ⟨q,hq,rfl⟩ := List.mem_map.1 hp
   exact k3 q hq
theorem its_keys {w:World} {rb base:Nat} {its:List Pl.It} {v:Value} (h:ItsW w rb base 328 2 shO its v):∃ ks:List Key,ks.map (·.1) = its.map (·.tree) /\ dsOf ks = its.map (·.mark) /\ KeysW w w.heap.size ks v := by
 obtain ⟨ps,k1,k2,k3⟩ := its_pairs h
 refine ⟨ps.map (fun p=>(p.1.tree,p.2,p.1.mark)),by rw [<- k1]; simp,by rw [<- k1]; simp [dsOf],?_,fun p hp=>?_⟩
 · refine own_rows (f := keyC) (fun _=>rfl) (base := base) (e := 328) ?_ (Nat.le_refl _)
   have e:(ps.map (fun p=>(p.1.tree,p.2,p.1.mark))).flatMap keyC = ps.flatMap (fun p=>shO p.1 p.2) := by
     rw [List.flatMap_map]; rfl
   rw [e,List.length_map]
   exact k2
 · obtain ⟨q,hq,rfl⟩ := List.mem_map.1 hp
   exact k3 q hq
theorem its_cols {w:World} {rb base:Nat} {s:Pl.St} {v:Value} (h:ItsW w rb base 97 2 shC s.items v):w.ownsRow base 97 2 v (colsOf s).length (tcsC (colsOf s)) := by
 obtain ⟨ps,k1,k2,k3⟩ := its_pairs h
 have e1:(colsOf s).length = ps.length := by unfold colsOf; rw [<- k1]; simp
 have e2:tcsC (colsOf s) = ps.flatMap (fun p=>shC p.1 p.2) := by
   unfold tcsC colsOf; rw [<- k1,List.map_map,List.flatMap_map]; rfl
 rw [e1,e2]
 exact k2
theorem its_srcs {w:World} {rb base:Nat} {s:Pl.St} {v:Value} (h:ItsW w rb base 324 4 shX s.sources v) (hs:Pl.okSt s) (hk:s.kind = 115) (hr:RulesAt w) (hg : 9 < w.heap.size):∃ ss:List (Pl.It × Value),ss.map (·.1) = s.sources /\ SrcsIn w ss v := by
 obtain ⟨ps,k1,k2,k3⟩ := its_pairs h
 obtain ⟨a,r,e,ha,_,hr2,hrt⟩ := hs.sources hk
 refine ⟨ps,k1,own_rows (f := siC) (fun _=>rfl) k2 (Nat.le_refl _),k3,fun p hp=>?_,?_,fun a' n' c' e' => ?_,hr,hg⟩
 · have hm:p.1 ∈ s.sources := by rw [<- k1]; exact List.mem_map_of_mem hp
   rw [e] at hm
   rcases List.mem_cons.1 hm with h1 | h1
   · rw [h1]; exact .inl ha
   · exact .inr (hrt _ h1)
 · have := congrArg List.length k1
   rw [e] at this
   simp at this
   omega
 · obtain ⟨a'',c'',e'',hc⟩ := own_cap k2
   rw [e'] at e''
   cases e''
   exact hc
theorem cst_select {w:World} {rb base n:Nat} {s:Pl.St} (h:CSt w rb base s n) (hs:Pl.okSt s) (hk:s.kind = 115) (hv:s.all = false -> s.items ≠ []) (hr:RulesAt w) (hg : 9 < w.heap.size):∃ ss vs ks u x v o,SelIn w n s ss vs ks u x v o := by
 obtain ⟨_,h⟩ := h
 rw [if_neg (by omega),if_neg (by omega),if_neg (by omega),if_neg (by omega)] at h
 obtain ⟨u,x,v,o,hb,hu,hx,hw,ho⟩ := h
 obtain ⟨ss,s1,s2⟩ := its_srcs hx hs hk hr hg
 obtain ⟨ks,q1,q2,q3⟩ := its_keys ho
 cases ha:s.all with
 | true =>
   rw [ha,if_pos rfl] at hu
   exact ⟨ss,[],ks,u,x,v,o,hb,s2,s1,fun _=>hu,fun e=>(by rw [ha] at e; cases e),hw.tr (Nat.le_refl _),q3,q1,q2,hs,hk⟩
 | false =>
   rw [ha,if_neg (by simp)] at hu
   obtain ⟨ts,t1,t2⟩ := its_trees hu
   refine ⟨ss,ts,ks,u,x,v,o,hb,s2,s1,fun e=>by (rw [ha] at e; cases e),fun _=>⟨t2,t1,fun e=>?_⟩,hw.tr (Nat.le_refl _),q3,q1,q2,hs,hk⟩
   rw [e] at t1
   exact hv ha (List.map_eq_nil_iff.1 t1.symm)
theorem cst_create {w:World} {rb base n:Nat} {s:Pl.St} (h:CSt w rb base s n) (hk:s.kind = 99):∃ cv,w.heap[n]? = some (.cells #[.string ⟨s.table.toArray⟩,cv] 190) /\ w.ownsRow base 97 2 cv (colsOf s).length (tcsC (colsOf s)) := by
 obtain ⟨_,h⟩ := h
 rw [if_pos hk] at h
 obtain ⟨v,h1,h2⟩ := h
 exact ⟨v,h1,its_cols h2⟩
theorem cst_insert {w:World} {rb base n:Nat} {s:Pl.St} (h:CSt w rb base s n) (hk:s.kind = 105):∃ tv ts,w.heap[n]? = some (.cells #[.string ⟨s.table.toArray⟩,tv] 194) /\ ts.map (·.1) = s.items.map (·.tree) /\ TreesW w w.heap.size ts tv := by
 obtain ⟨_,h⟩ := h
 rw [if_neg (by omega),if_pos hk] at h
 obtain ⟨v,h1,h2⟩ := h
 obtain ⟨ts,k1,k2⟩ := its_trees h2
 exact ⟨v,ts,h1,k1,k2⟩
theorem cst_delete {w:World} {rb base n:Nat} {s:Pl.St} (h:CSt w rb base s n) (hk:s.kind = 100):∃ v,w.heap[n]? = some (.cells #[.string ⟨s.table.toArray⟩,v] 201) /\ TrW w w.heap.size s.whr v := by
 obtain ⟨_,h⟩ := h
 rw [if_neg (by omega),if_neg (by omega),if_pos hk] at h
 obtain ⟨v,h1,h2⟩ := h
 exact ⟨v,h1,h2.tr (Nat.le_refl _)⟩
def seC (p:Pl.It × Value):List Value := shS p.1 p.2
def SetsW (w:World) (hi:Nat) (ps:List (Pl.It × Value)) (v:Value):Prop := RowsW w hi 2 seC ps v /\ ∀ p ∈ ps,TrW w hi p.1.tree p.2
theorem SetsW.below {w w':World} {ps:List (Pl.It × Value)} {v:Value} (h:SetsW w w.heap.size ps v) (hb:Below w.heap.size w w'):SetsW w' w'.heap.size ps v := ⟨h.1.below hb,fun p hp=>((h.2 p hp).keep (fun k hk=>hb.block k hk)).more hb.size⟩
theorem cst_update {w:World} {rb base n:Nat} {s:Pl.St} (h:CSt w rb base s n) (hk:s.kind = 117):∃ u v ps,w.heap[n]? = some (.cells #[.string ⟨s.table.toArray⟩,u,v] 213) /\ ps.map (·.1) = s.items /\ SetsW w w.heap.size ps u /\ TrW w w.heap.size s.whr v := by
 obtain ⟨_,h⟩ := h
 rw [if_neg (by omega),if_neg (by omega),if_neg (by omega),if_pos hk] at h
 obtain ⟨u,v,h1,h2,h3⟩ := h
 obtain ⟨ps,k1,k2,k3⟩ := its_pairs h2
 exact ⟨u,v,ps,h1,k1,⟨own_rows (f := seC) (fun _=>rfl) k2 (Nat.le_refl _),k3⟩,h3.tr (Nat.le_refl _)⟩
end Go.Proofs.YtojdpjpldokjmaaGreatDoor
namespace Go.Proofs.YtojdpjpldokjmaaGreatDoor.Pl
end Go.Proofs.YtojdpjpldokjmaaGreatDoor.Pl
namespace Go.Proofs.YtojdpjpldokjmaaGreatDoor
open Go.RowKit Go.Deep
set_option linter.unusedSimpArgs false
set_option linter.unusedVariables false
structure SetI (w wr:World) (cols:List Pl.Col) (sv:Value) (sgs:List Sg):Prop where
 bel:Below w.heap.size w wr
 own:wr.ownsRow w.heap.size 275 2 sv sgs.length (sgs.flatMap sgC)
 progs:∀ s ∈ sgs,ProgP wr (offP wr sv) cols s.2.1 s.2.2
theorem SetI.below {w wr wx:World} {cols:List Pl.Col} {sv:Value} {sgs:List Sg} (h:SetI w wr cols sv sgs) (hb:Below wr.heap.size wr wx):SetI w wx cols sv sgs :=
 ⟨h.bel.trans (hb.mono h.bel.size),own_below hb h.own,fun s hs=>(RowsP.keep (h.progs s hs) (fun k hk=>(hk.below hb).2)).mono (fun k hk=>(hk.below hb).1)⟩
theorem SetI.push {w w2 w4:World} {cols:List Pl.Col} {sv sv' u:Value} {sgs:List Sg} {k:Nat} {t:Pl.T} (h:SetI w w2 cols sv sgs) (hp:ProgP w2 (offP w2 sv) cols t u) (hown:w4.ownsRow w.heap.size 275 2 sv' (sgs.length + 1) (sgs.flatMap sgC ++ sgC (k,t,u))) (hg:w2.grownBy w4 sv.ownBlock) (ho:sv'.ownBlock = sv.ownBlock \/ sv'.ownBlock = some w2.heap.size):SetI w w4 cols sv' (sgs ++ [(k,t,u)]) := by
 refine ⟨below_grown h.bel hg (fun k hk=>(h.own.lt k hk).1) h.bel.size,by simpa using hown,fun s hs=>?_⟩
 rcases List.mem_append.1 hs with hs | hs
 · exact (RowsP.keep (h.progs s hs) (fun k hk=>(offP.push hg ho hk).2)).mono (fun k hk=>(offP.push hg ho hk).1)
 · simp at hs
   subst hs
   exact (RowsP.keep hp (fun k hk=>(offP.push hg ho hk).2)).mono (fun k hk=>(offP.push hg ho hk).1)
def UpdM:Prop := ∀ (lo:Nat) (w:World) (M:Nat -> Prop) (b n:Nat) (lay:List Lay) (D:Pl.DB) (s:Pl.St) (ps:List (Pl.It × Value)) (u v:Value),ExIn w M b lay D -> w.heap[n]? = some (.cells #[.string ⟨s.table.toArray⟩,u,v] 213) -> ps.map (·.1) = s.items -> SetsW w w.heap.size ps u -> TrW w w.heap.size s.whr v -> Pl.okSt s -> s.kind = 117 -> lo <= w.heap.size ->
 Calls Tryz.prog 68 #[.pointer (some ⟨b,0,none⟩),.pointer (some ⟨n,0,none⟩)] w (PostCh lo w M b (Pl.doUpdate D s))
structure But (k:Nat) (w w':World):Prop where
 os:w'.os = w.os
 tape:w'.tape = w.tape
 output:w'.output = w.output
 size:w'.heap.size = w.heap.size
 block:∀ j,j ≠ k -> w'.heap[j]? = w.heap[j]?
theorem But.refl (k:Nat) (w:World):But k w w := ⟨rfl,rfl,rfl,rfl,fun _ _=>rfl⟩
theorem But.set {k:Nat} {w w':World} (h:But k w w') (o:Nat) (v:Value):But k w (w'.setCell ⟨k,o,none⟩ v) :=
 ⟨h.os,h.tape,h.output,by rw [size_set]; exact h.size,fun j hj=>by rw [Below.heap_setCell _ _ _ _ hj]; exact h.block j hj⟩
theorem DbStep.boxed {lo:Nat} {w w' w'':World} {o:Obj} {M M':Nat -> Prop} {b:Nat} {D:Pl.DB} {lay:List Lay} (h:DbStep lo (w.alloc o) M b D w' M' lay) (hs:But w.heap.size w' w'') (hM:M' w.heap.size -> w''.heap[w.heap.size]? = w'.heap[w.heap.size]?):DbStep lo w M b D w'' M' lay := by
 have hk:∀ k,M' k -> w''.heap[k]? = w'.heap[k]? := fun k hk=>by
   by_cases e:k = w.heap.size
   · subst e; exact hM hk
   · exact hs.block k e
 refine ⟨h.db.keep (Nat.le_of_eq hs.size.symm) hk,h.sub,h.new,hs.os.trans h.keep.os,hs.tape.trans h.keep.tape,hs.output.trans h.keep.output,?_,fun k hk=>?_⟩
 · have := h.keep.size
   simp at this
   rw [hs.size]; omega
 · rw [hs.block k (by omega),h.keep.block k ⟨by simp; omega,hk.2⟩,Below.heap_alloc _ _ _ hk.1]
def OutW (base:Nat) (w':World) (M M':Nat -> Prop) (rows:List (List Pl.V)) (rv:Value):Prop := ∃ qs:List Pl.PRow,rows = qs.map (·.1) /\ w'.ownsRow base 32 1 rv qs.length (sndC qs) /\ NewRows w' base qs /\ (rv = .slice none 0 0 \/ M' = M)
theorem OutW.nil (base:Nat) (w':World) (M M':Nat -> Prop):OutW base w' M M' [] (.slice none 0 0) := ⟨[],rfl,own_nil,⟨by simp,.nil⟩,.inl rfl⟩
def PostDo (lo:Nat) (w:World) (M:Nat -> Prop) (b:Nat) (o:Pl.DB × Pl.Ans) (e:Ending) (w':World):Prop :=
 ∃ rv M' lay',e = .returned (.tuple #[.agg #[rv,.int .i64 o.2.count],.int .i64 (o.2.err:Nat)]) /\ DbStep lo w M b o.1 w' M' lay' /\ OutW w.heap.size w' M M' o.2.rows rv
theorem doSt_99 {D:Pl.DB} {s:Pl.St} (h:s.kind = 99):Pl.doSt D s = Pl.doCreate D s := by unfold Pl.doSt; rw [if_pos h]
theorem doSt_105 {D:Pl.DB} {s:Pl.St} (h:s.kind = 105):Pl.doSt D s = Pl.doInsert D s := by unfold Pl.doSt; rw [if_neg (by omega),if_pos h]
theorem doSt_100 {D:Pl.DB} {s:Pl.St} (h:s.kind = 100):Pl.doSt D s = Pl.doDelete D s := by unfold Pl.doSt; rw [if_neg (by omega),if_neg (by omega),if_pos h]
theorem doSt_117 {D:Pl.DB} {s:Pl.St} (h:s.kind = 117):Pl.doSt D s = Pl.doUpdate D s := by unfold Pl.doSt; rw [if_neg (by omega),if_neg (by omega),if_neg (by omega),if_pos h]
theorem doSt_115 {D:Pl.DB} {s:Pl.St} (h:s.kind = 115):Pl.doSt D s = Pl.doSelect D s := by unfold Pl.doSt; rw [if_neg (by omega),if_neg (by omega),if_neg (by omega),if_neg (by omega)]
theorem create_rows (D:Pl.DB) (s:Pl.St):(Pl.doCreate D s).2.rows = [] /\ (Pl.doCreate D s).2.count = 0 := by
 unfold Pl.doCreate
 split
 · exact ⟨rfl,rfl⟩
 · split <;> exact ⟨rfl,rfl⟩
theorem insert_rows (D:Pl.DB) (s:Pl.St):(Pl.doInsert D s).2.rows = [] := by
 unfold Pl.doInsert
 cases Pl.tabAt D s.table with
 | none=>rfl
 | some i =>
   simp only
   split
   · rfl
   · cases Pl.tcRow (s.items.map (·.tree)) ((Pl.tabD D i).cols.map (·.2)) with
     | some e=>rfl
     | none =>
       simp only
       cases Pl.evAll [] [] (s.items.map (·.tree)) with
       | error e=>rfl
       | ok row =>
         simp only
         split <;> rfl
theorem delete_rows (D:Pl.DB) (s:Pl.St):(Pl.doDelete D s).2.rows = [] := by
 unfold Pl.doDelete
 cases Pl.tabAt D s.table with
 | none=>rfl
 | some i =>
   simp only
   cases Pl.tcAs (Pl.scope (Pl.tabD D i).name (Pl.tabD D i)) (Pl.cond s.whr) 3 with
   | some e=>rfl
   | none =>
     simp only
     cases Pl.sift (Pl.scope (Pl.tabD D i).name (Pl.tabD D i)) (Pl.cond s.whr) (Pl.tabD D i).rows <;> rfl
theorem update_rows (D:Pl.DB) (s:Pl.St):(Pl.doUpdate D s).2.rows = [] := by
 unfold Pl.doUpdate
 cases Pl.tabAt D s.table with
 | none=>rfl
 | some i =>
   simp only
   cases Pl.setsGo (Pl.tabD D i) [] s.items with
   | error e=>rfl
   | ok ks =>
     simp only
     cases Pl.tcAs (Pl.scope (Pl.tabD D i).name (Pl.tabD D i)) (Pl.cond s.whr) 3 with
     | some e=>rfl
     | none =>
       simp only
       cases Pl.updGo (Pl.scope (Pl.tabD D i).name (Pl.tabD D i)) (Pl.cond s.whr) ks (s.items.map (·.tree)) (Pl.tabD D i).rows <;> rfl
theorem as_cc (W:World) (v:Value):(Instr.typeAssert (.iface 131 v) 79 131 true).run Tryz.prog W = .ok (.tuple #[v,.bool true]) W := by kernel_rfl
theorem as_ic (W:World) (v:Value):(Instr.typeAssert (.iface 133 v) 79 131 true).run Tryz.prog W = .ok (.tuple #[.pointer none,.bool false]) W := by kernel_rfl
theorem as_ii (W:World) (v:Value):(Instr.typeAssert (.iface 133 v) 79 133 true).run Tryz.prog W = .ok (.tuple #[v,.bool true]) W := by kernel_rfl
theorem as_dc (W:World) (v:Value):(Instr.typeAssert (.iface 135 v) 79 131 true).run Tryz.prog W = .ok (.tuple #[.pointer none,.bool false]) W := by kernel_rfl
theorem as_di (W:World) (v:Value):(Instr.typeAssert (.iface 135 v) 79 133 true).run Tryz.prog W = .ok (.tuple #[.pointer none,.bool false]) W := by kernel_rfl
theorem as_dd (W:World) (v:Value):(Instr.typeAssert (.iface 135 v) 79 135 true).run Tryz.prog W = .ok (.tuple #[v,.bool true]) W := by kernel_rfl
theorem as_uc (W:World) (v:Value):(Instr.typeAssert (.iface 137 v) 79 131 true).run Tryz.prog W = .ok (.tuple #[.pointer none,.bool false]) W := by kernel_rfl
theorem as_ui (W:World) (v:Value):(Instr.typeAssert (.iface 137 v) 79 133 true).run Tryz.prog W = .ok (.tuple #[.pointer none,.bool false]) W := by kernel_rfl
theorem as_ud (W:World) (v:Value):(Instr.typeAssert (.iface 137 v) 79 135 true).run Tryz.prog W = .ok (.tuple #[.pointer none,.bool false]) W := by kernel_rfl
theorem as_uu (W:World) (v:Value):(Instr.typeAssert (.iface 137 v) 79 137 true).run Tryz.prog W = .ok (.tuple #[v,.bool true]) W := by kernel_rfl
theorem as_sc (W:World) (v:Value):(Instr.typeAssert (.iface 139 v) 79 131 true).run Tryz.prog W = .ok (.tuple #[.pointer none,.bool false]) W := by kernel_rfl
theorem as_si (W:World) (v:Value):(Instr.typeAssert (.iface 139 v) 79 133 true).run Tryz.prog W = .ok (.tuple #[.pointer none,.bool false]) W := by kernel_rfl
theorem as_sd (W:World) (v:Value):(Instr.typeAssert (.iface 139 v) 79 135 true).run Tryz.prog W = .ok (.tuple #[.pointer none,.bool false]) W := by kernel_rfl
theorem as_su (W:World) (v:Value):(Instr.typeAssert (.iface 139 v) 79 137 true).run Tryz.prog W = .ok (.tuple #[.pointer none,.bool false]) W := by kernel_rfl
theorem as_ss (W:World) (v:Value):(Instr.typeAssert (.iface 139 v) 79 139 true).run Tryz.prog W = .ok (.tuple #[v,.bool true]) W := by kernel_rfl
abbrev boxO:Obj := .cells #[.slice none 0 0,.int .i64 0] 36
theorem ch_done {lo:Nat} {w:World} {M:Nat -> Prop} {b:Nat} {lay:List Lay} {D:Pl.DB} {o:Pl.DB × Pl.Ans} (h:DbW w M b lay D) (hlo:lo <= w.heap.size) (hr:o.2.rows = []) (w1:World) (hp:∃ M' lay',DbStep (w.heap.size + 1) (w.alloc boxO) M b o.1 w1 M' lay') :
   w1.heap[w.heap.size]? = some boxO /\ ∀ w'',But w.heap.size w1 w'' -> PostDo lo w M b o (.returned (.tuple #[.agg #[.slice none 0 0,.int .i64 o.2.count],.int .i64 (o.2.err:Nat)])) w'' := by
 obtain ⟨M',lay',hst⟩ := hp
 have hnb:¬ M w.heap.size := fun hm=>by have := h.lt _ hm; omega
 have hnb':¬ M' w.heap.size := fun hm=>by
   rcases hst.new _ hm with h' | h'
   · exact hnb h'
   · omega
 refine ⟨(hst.keep.block _ ⟨by simp,hnb⟩).trans (blk_new _ _),fun w'' hs=>⟨_,M',lay',rfl,(hst.boxed hs (fun hm=>absurd hm hnb')).low (by omega),?_⟩⟩
 rw [hr]
 exact OutW.nil _ _ _ _
theorem cr_done {lo:Nat} {w:World} {M:Nat -> Prop} {b:Nat} {lay:List Lay} {D:Pl.DB} {o:Pl.DB × Pl.Ans} (h:DbW w M b lay D) (hr:o.2.rows = [] /\ o.2.count = 0) (w1:World) (hp:∃ M' lay',DbStep lo (w.alloc boxO) M b o.1 w1 M' lay') :
   w1.heap[w.heap.size]? = some boxO /\ ∀ w'',But w.heap.size w1 w'' -> w''.heap[w.heap.size]? = some boxO -> PostDo lo w M b o (.returned (.tuple #[.agg #[.slice none 0 0,.int .i64 0],.int .i64 (o.2.err:Nat)])) w'' := by
 obtain ⟨M',lay',hst⟩ := hp
 have hnb:¬ M w.heap.size := fun hm=>by have := h.lt _ hm; omega
 have hx := (hst.keep.block _ ⟨by simp,hnb⟩).trans (blk_new w boxO)
 refine ⟨hx,fun w'' hs hsame=>⟨_,M',lay',by rw [hr.2],hst.boxed hs (fun _=>by rw [hsame,hx]),?_⟩⟩
 rw [hr.1]
 exact OutW.nil _ _ _ _
theorem select_no {D:Pl.DB} {s:Pl.St} {er:Nat} (hs:Pl.okSt s) (hk:s.kind = 115) (h:Pl.choose D s = .error er):Pl.doSelect D s = (D,Pl.no er) := by rw [Pl.choose_do hs hk,h]
theorem select_yes {D:Pl.DB} {s:Pl.St} {rows:List (List Pl.V)} (hs:Pl.okSt s) (hk:s.kind = 115) (h:Pl.choose D s = .ok rows):Pl.doSelect D s = (D,⟨rows,0,0⟩) := by rw [Pl.choose_do hs hk,h]
theorem OutW.keep {base base':Nat} {w w':World} {M M':Nat -> Prop} {rows:List (List Pl.V)} {rv:Value} (h:OutW base w M M' rows rv) (hk:∀ k,base <= k -> k < w.heap.size -> w'.heap[k]? = w.heap[k]?) (hb:base' <= base):OutW base' w' M M' rows rv := by
 obtain ⟨qs,h1,h2,h3,h4⟩ := h
 refine ⟨qs,h1,own_base (own_at h2 (fun k hk' => hk k (h2.lt k hk').1 (h2.lt k hk').2)) hb,⟨fun q hq=>own_base (own_at (h3.1 q hq) (fun k hk' => hk k ((h3.1 q hq).lt k hk').1 ((h3.1 q hq).lt k hk').2)) hb,h3.2⟩,h4⟩
theorem sel_done {lo:Nat} {w w1:World} {M:Nat -> Prop} {b:Nat} {lay:List Lay} {D:Pl.DB} {rows:List (List Pl.V)} {rv:Value} (h:DbW w M b lay D) (hb:Below (w.heap.size + 1) (w.alloc boxO) w1) (ho:OutW (w.heap.size + 1) w1 M M rows rv) :
   w1.heap[w.heap.size]? = some boxO /\ ∀ w'',But w.heap.size w1 w'' -> PostDo lo w M b (D,⟨rows,0,0⟩) (.returned (.tuple #[.agg #[rv,.int .i64 0],.int .i64 0])) w'' := by
 have hnb:¬ M w.heap.size := fun hm=>by have := h.lt _ hm; omega
 have hx := (hb.block _ (by omega)).trans (blk_new w boxO)
 have hz := hb.size
 simp at hz
 refine ⟨hx,fun w'' hs=>⟨rv,M,lay,rfl,⟨h.keep (by rw [hs.size]; omega) (fun k hk=>?_),fun k hk=>hk,fun k hk=>.inl hk,hs.os.trans hb.os,hs.tape.trans hb.tape,hs.output.trans hb.output,by rw [hs.size]; omega,fun k hk=>?_⟩,?_⟩⟩
 · have := h.lt k hk
   rw [hs.block k (by omega),hb.block k (by omega),Below.heap_alloc _ _ _ this]
 · have := hk.1
   rw [hs.block k (by omega),hb.block k (by omega),Below.heap_alloc _ _ _ this]
 · exact ho.keep (fun k hk _=>hs.block k (by omega)) (by omega)
theorem sel_err {lo:Nat} {w w1:World} {M:Nat -> Prop} {b:Nat} {lay:List Lay} {D:Pl.DB} {er:Nat} (h:DbW w M b lay D) (hb:Below (w.heap.size + 1) (w.alloc boxO) w1) :
   w1.heap[w.heap.size]? = some boxO /\ ∀ w'',But w.heap.size w1 w'' -> PostDo lo w M b (D,Pl.no er) (.returned (.tuple #[.agg #[.slice none 0 0,.int .i64 0],.int .i64 (er:Nat)])) w'' := by
 have h0 := sel_done (lo := lo) (rows := []) (rv := .slice none 0 0) h hb (OutW.nil _ _ _ _)
 refine ⟨h0.1,fun w'' hs=>?_⟩
 obtain ⟨rv,M',lay',h1,h2,h3⟩ := h0.2 w'' hs
 exact ⟨_,M',lay',rfl,h2,OutW.nil _ _ _ _⟩
theorem do_insert (X:MachLib) (lo:Nat) (w:World) (M:Nat -> Prop) (b n rb base:Nat) (lay:List Lay) (D:Pl.DB) (s:Pl.St) (h:ExIn w M b lay D) (hc:CSt w rb base s n) (hs:Pl.okSt s) (hk:s.kind = 105) (hlo:lo <= w.heap.size) :
   Calls Tryz.prog 36 #[.pointer (some ⟨b,0,none⟩),.iface 133 (.pointer (some ⟨n,0,none⟩))] w (PostDo lo w M b (Pl.doInsert D s)) := by
 obtain ⟨tv,ts,hn,hts,htv⟩ := cst_insert hc hk
 have hb0:Below w.heap.size w (w.alloc boxO) := (Below.refl _ _).alloc (Nat.le_refl _) _
 have HI := hide (insertM X (w.heap.size + 1) s hs hk ts hts n tv (w.alloc boxO) M b lay D (h.below hb0) (by simp) (below_blk hb0 (lt_of_blk hn) hn) (htv.below hb0))
 have HD := hide (ch_done (o := Pl.doInsert D s) h.db hlo (insert_rows D s))
 generalize Pl.doInsert D s = out at *
 have a1 := as_ic (w.alloc boxO) (.pointer (some ⟨n,0,none⟩))
 have a2 := as_ii (w.alloc boxO) (.pointer (some ⟨n,0,none⟩))
 clear hc hn hts htv hb0 h hs
 generalize PostDo lo w M b out = Post at *
 go_enter Tryz.func36,Tryz.ntmps36
 go_wp2_with fail
 refine (unhide HI).mono ?_
 rintro e w1 ⟨rfl,hp⟩
 obtain ⟨hx,he⟩ := HD.out w1 hp
 have x0 := blk_cell hx 0
 have x1 := blk_cell hx 1
 have xf0 := blk_frozen hx 0
 have xf1 := blk_frozen hx 1
 simp at x0 x1
 have hxz := lt_of_blk hx
 have HE := hide he
 have HX := hide hx
 clear he hp HD HI hx
 go_wp2_with fail
 refine bodyPost_ret (v := .tuple #[.agg #[.slice none 0 0,.int .i64 out.2.count],.int .i64 (out.2.err:Nat)]) ?_ rfl (HE.out _ ((((But.refl _ _).set 1 (.int .i64 out.2.count)).set 0 (.slice none 0 0)).set 1 (.int .i64 out.2.count)))
 have rb := (blk_set (blk_set (blk_set HX.out 1 (.int .i64 out.2.count)) 0 (.slice none 0 0)) 1 (.int .i64 out.2.count))
 have r0 := blk_cell rb 0
 have r1 := blk_cell rb 1
 simp at r0 r1
 simp [results,Tryz.results36,go_sem,r0,r1]
theorem do_delete (X:MachLib) (lo:Nat) (w:World) (M:Nat -> Prop) (b n rb base:Nat) (lay:List Lay) (D:Pl.DB) (s:Pl.St) (h:ExIn w M b lay D) (hc:CSt w rb base s n) (hs:Pl.okSt s) (hk:s.kind = 100) (hlo:lo <= w.heap.size) :
   Calls Tryz.prog 36 #[.pointer (some ⟨b,0,none⟩),.iface 135 (.pointer (some ⟨n,0,none⟩))] w (PostDo lo w M b (Pl.doDelete D s)) := by
 obtain ⟨v,hn,hv⟩ := cst_delete hc hk
 have hb0:Below w.heap.size w (w.alloc boxO) := (Below.refl _ _).alloc (Nat.le_refl _) _
 have HI := hide (deleteM X (w.heap.size + 1) (w.alloc boxO) M b n lay D s v (h.below hb0) (below_blk hb0 (lt_of_blk hn) hn) ((hv.keep (fun k hk=>hb0.block k hk)).more hb0.size) hs (by simp))
 have HD := hide (ch_done (o := Pl.doDelete D s) h.db hlo (delete_rows D s))
 generalize Pl.doDelete D s = out at *
 have a1 := as_dc (w.alloc boxO) (.pointer (some ⟨n,0,none⟩))
 have a2 := as_di (w.alloc boxO) (.pointer (some ⟨n,0,none⟩))
 have a3 := as_dd (w.alloc boxO) (.pointer (some ⟨n,0,none⟩))
 clear hc hn hv hb0 h hs
 generalize PostDo lo w M b out = Post at *
 go_enter Tryz.func36,Tryz.ntmps36
 go_wp2_with fail
 refine (unhide HI).mono ?_
 rintro e w1 ⟨rfl,hp⟩
 obtain ⟨hx,he⟩ := HD.out w1 hp
 have x0 := blk_cell hx 0
 have x1 := blk_cell hx 1
 have xf0 := blk_frozen hx 0
 have xf1 := blk_frozen hx 1
 simp at x0 x1
 have hxz := lt_of_blk hx
 have HE := hide he
 have HX := hide hx
 clear he hp HD HI hx
 go_wp2_with fail
 refine bodyPost_ret (v := .tuple #[.agg #[.slice none 0 0,.int .i64 out.2.count],.int .i64 (out.2.err:Nat)]) ?_ rfl (HE.out _ ((((But.refl _ _).set 1 (.int .i64 out.2.count)).set 0 (.slice none 0 0)).set 1 (.int .i64 out.2.count)))
 have rb := (blk_set (blk_set (blk_set HX.out 1 (.int .i64 out.2.count)) 0 (.slice none 0 0)) 1 (.int .i64 out.2.count))
 have r0 := blk_cell rb 0
 have r1 := blk_cell rb 1
 simp at r0 r1
 simp [results,Tryz.results36,go_sem,r0,r1]
theorem do_update (U:UpdM) (lo:Nat) (w:World) (M:Nat -> Prop) (b n rb base:Nat) (lay:List Lay) (D:Pl.DB) (s:Pl.St) (h:ExIn w M b lay D) (hc:CSt w rb base s n) (hs:Pl.okSt s) (hk:s.kind = 117) (hlo:lo <= w.heap.size) :
   Calls Tryz.prog 36 #[.pointer (some ⟨b,0,none⟩),.iface 137 (.pointer (some ⟨n,0,none⟩))] w (PostDo lo w M b (Pl.doUpdate D s)) := by
 obtain ⟨u,v,ps,hn,hps,hu,hv⟩ := cst_update hc hk
 have hb0:Below w.heap.size w (w.alloc boxO) := (Below.refl _ _).alloc (Nat.le_refl _) _
 have HI := hide (U (w.heap.size + 1) (w.alloc boxO) M b n lay D s ps u v (h.below hb0) (below_blk hb0 (lt_of_blk hn) hn) hps (hu.below hb0) ((hv.keep (fun k hk=>hb0.block k hk)).more hb0.size) hs hk (by simp))
 have HD := hide (ch_done (o := Pl.doUpdate D s) h.db hlo (update_rows D s))
 generalize Pl.doUpdate D s = out at *
 have a1 := as_uc (w.alloc boxO) (.pointer (some ⟨n,0,none⟩))
 have a2 := as_ui (w.alloc boxO) (.pointer (some ⟨n,0,none⟩))
 have a3 := as_ud (w.alloc boxO) (.pointer (some ⟨n,0,none⟩))
 have a4 := as_uu (w.alloc boxO) (.pointer (some ⟨n,0,none⟩))
 clear hc hn hu hv hps hb0 h hs U
 generalize PostDo lo w M b out = Post at *
 go_enter Tryz.func36,Tryz.ntmps36
 go_wp2_with fail
 refine (unhide HI).mono ?_
 rintro e w1 ⟨rfl,hp⟩
 obtain ⟨hx,he⟩ := HD.out w1 hp
 have x0 := blk_cell hx 0
 have x1 := blk_cell hx 1
 have xf0 := blk_frozen hx 0
 have xf1 := blk_frozen hx 1
 simp at x0 x1
 have hxz := lt_of_blk hx
 have HE := hide he
 have HX := hide hx
 clear he hp HD HI hx
 go_wp2_with fail
 refine bodyPost_ret (v := .tuple #[.agg #[.slice none 0 0,.int .i64 out.2.count],.int .i64 (out.2.err:Nat)]) ?_ rfl (HE.out _ ((((But.refl _ _).set 1 (.int .i64 out.2.count)).set 0 (.slice none 0 0)).set 1 (.int .i64 out.2.count)))
 have rb := (blk_set (blk_set (blk_set HX.out 1 (.int .i64 out.2.count)) 0 (.slice none 0 0)) 1 (.int .i64 out.2.count))
 have r0 := blk_cell rb 0
 have r1 := blk_cell rb 1
 simp at r0 r1
 simp [results,Tryz.results36,go_sem,r0,r1]
theorem do_create (lo:Nat) (w:World) (M:Nat -> Prop) (b n rb base:Nat) (lay:List Lay) (D:Pl.DB) (s:Pl.St) (h:ExIn w M b lay D) (hc:CSt w rb base s n) (hs:Pl.okSt s) (hk:s.kind = 99) (hlo:lo <= base) (hbase:base <= w.heap.size) :
   Calls Tryz.prog 36 #[.pointer (some ⟨b,0,none⟩),.iface 131 (.pointer (some ⟨n,0,none⟩))] w (PostDo lo w M b (Pl.doCreate D s)) := by
 obtain ⟨cv,hn,hcv⟩ := cst_create hc hk
 have hb0:Below w.heap.size w (w.alloc boxO) := (Below.refl _ _).alloc (Nat.le_refl _) _
 have HI := hide (createM lo s hs hk n base cv (w.alloc boxO) M b lay D (h.below hb0).db (by simp; omega) (below_blk hb0 (lt_of_blk hn) hn) (own_below hb0 hcv) (fun k hk=>by have := (hcv.lt k hk).1; omega))
 have HD := hide (cr_done (lo := lo) (o := Pl.doCreate D s) h.db (create_rows D s))
 generalize Pl.doCreate D s = out at *
 have a1 := as_cc (w.alloc boxO) (.pointer (some ⟨n,0,none⟩))
 clear hc hn hcv hb0 h hs
 generalize PostDo lo w M b out = Post at *
 go_enter Tryz.func36,Tryz.ntmps36
 go_wp2_with fail
 refine (unhide HI).mono ?_
 rintro e w1 ⟨rfl,hp⟩
 obtain ⟨hx,he⟩ := HD.out w1 hp
 have x0 := blk_cell hx 0
 have x1 := blk_cell hx 1
 have xf0 := blk_frozen hx 0
 have xf1 := blk_frozen hx 1
 simp at x0 x1
 have hxz := lt_of_blk hx
 have HE := hide he
 have HX := hide hx
 clear he hp HD HI hx
 go_wp2_with fail
 have rb := blk_set (blk_set HX.out 0 (.slice none 0 0)) 1 (.int .i64 0)
 simp at rb
 refine bodyPost_ret (v := .tuple #[.agg #[.slice none 0 0,.int .i64 0],.int .i64 (out.2.err:Nat)]) ?_ rfl (HE.out _ (((But.refl _ _).set 0 (.slice none 0 0)).set 1 (.int .i64 0)) rb)
 have r0 := blk_cell rb 0
 have r1 := blk_cell rb 1
 simp at r0 r1
 simp [results,Tryz.results36,go_sem,r0,r1]
theorem do_select (X:MachLib) (N:Nat) {L:Nat} (HSt:StableM N L) (hN1:N <= 1048576) (lo:Nat) (w:World) (M:Nat -> Prop) (b n rb base:Nat) (lay:List Lay) (D:Pl.DB) (s:Pl.St) (h:ExIn w M b lay D) (hc:CSt w rb base s n) (hs:Pl.okSt s) (hk:s.kind = 115) (hv:s.all = false -> s.items ≠ [])
   (hN:∀ is rows,Pl.joinsAll D [] [[]] is s.sources = .ok rows -> rows.length <= N) (hO:s.distinct = true -> OnceM) (hkL:s.keys.length <= L) (hpw:s.distinct = true -> PowAt w) :
   Calls Tryz.prog 36 #[.pointer (some ⟨b,0,none⟩),.iface 139 (.pointer (some ⟨n,0,none⟩))] w (PostDo lo w M b (Pl.doSelect D s)) := by
 obtain ⟨ss,vs,ks,u,x,v,o,hsel⟩ := cst_select hc hs hk hv h.rules h.glob.2
 have hb0:Below w.heap.size w (w.alloc boxO) := (Below.refl _ _).alloc (Nat.le_refl _) _
 have HI := hide (chooseM X N HSt hN1 (w.alloc boxO) M b n lay D s ss vs ks u x v o (h.below hb0).db (hsel.below hb0) hN hO hkL (fun e=>(hpw e).keep (hb0.block _ (hpw e).lt)))
 have HDb := hide h.db
 have HNo:Hid (∀ er,Pl.choose D s = .error er -> Pl.doSelect D s = (D,Pl.no er)) := fun er=>select_no hs hk
 have HYes:Hid (∀ rows,Pl.choose D s = .ok rows -> Pl.doSelect D s = (D,⟨rows,0,0⟩)) := fun rows=>select_yes hs hk
 have a1 := as_sc (w.alloc boxO) (.pointer (some ⟨n,0,none⟩))
 have a2 := as_si (w.alloc boxO) (.pointer (some ⟨n,0,none⟩))
 have a3 := as_sd (w.alloc boxO) (.pointer (some ⟨n,0,none⟩))
 have a4 := as_su (w.alloc boxO) (.pointer (some ⟨n,0,none⟩))
 have a5 := as_ss (w.alloc boxO) (.pointer (some ⟨n,0,none⟩))
 clear hc hsel hb0 h hs hN hO HSt hv hkL hpw
 go_enter Tryz.func36,Tryz.ntmps36
 go_wp2_with fail
 refine (unhide HI).mono ?_
 rintro e w1 ⟨hb1,hp⟩
 simp only [World.size_alloc] at hb1 hp
 rcases hp with ⟨er,her,rfl⟩ | ⟨qs,rv,hok,rfl,hown,hnew⟩
 · obtain ⟨hx,he⟩ := sel_err (lo := lo) (er := er) HDb.out hb1
   rw [<- HNo.out er her] at he
   have x0 := blk_cell hx 0
   have x1 := blk_cell hx 1
   have xf0 := blk_frozen hx 0
   have xf1 := blk_frozen hx 1
   simp at x0 x1
   have hxz := lt_of_blk hx
   have HE := hide he
   have HX := hide hx
   clear he her hb1 HI hx
   go_wp2_with fail
   refine bodyPost_ret (v := .tuple #[.agg #[.slice none 0 0,.int .i64 0],.int .i64 (er:Nat)]) ?_ rfl (HE.out _ ((((But.refl _ _).set 0 (.slice none 0 0)).set 0 (.slice none 0 0)).set 1 (.int .i64 0)))
   have rb := (blk_set (blk_set (blk_set HX.out 0 (.slice none 0 0)) 0 (.slice none 0 0)) 1 (.int .i64 0))
   have r0 := blk_cell rb 0
   have r1 := blk_cell rb 1
   simp at r0 r1
   simp [results,Tryz.results36,go_sem,r0,r1]
 · obtain ⟨hx,he⟩ := sel_done (lo := lo) (rows := qs.map (·.1)) (rv := rv) HDb.out hb1 ⟨qs,rfl,hown,hnew,.inr rfl⟩
   rw [<- HYes.out _ hok] at he
   obtain ⟨ra,rc,rfl⟩ := own_slice1 hown
   have x0 := blk_cell hx 0
   have x1 := blk_cell hx 1
   have xf0 := blk_frozen hx 0
   have xf1 := blk_frozen hx 1
   simp at x0 x1
   have hxz := lt_of_blk hx
   have HE := hide he
   have HX := hide hx
   clear he hok hb1 HI hx hown hnew
   go_wp2_with fail
   refine bodyPost_ret (v := .tuple #[.agg #[.slice ra qs.length rc,.int .i64 0],.int .i64 0]) ?_ rfl (HE.out _ ((((But.refl _ _).set 0 (.slice ra qs.length rc)).set 0 (.slice ra qs.length rc)).set 1 (.int .i64 0)))
   have rb := (blk_set (blk_set (blk_set HX.out 0 (.slice ra qs.length rc)) 0 (.slice ra qs.length rc)) 1 (.int .i64 0))
   have r0 := blk_cell rb 0
   have r1 := blk_cell rb 1
   simp at r0 r1
   simp [results,Tryz.results36,go_sem,r0,r1]
def DoOk (D:Pl.DB) (s:Pl.St):Prop := (s.kind = 117 -> UpdM) /\ (s.kind = 115 -> ∃ N L,StableM N L /\ N <= 1048576 /\ (∀ is rows,Pl.joinsAll D [] [[]] is s.sources = .ok rows -> rows.length <= N) /\ (s.distinct = true -> OnceM) /\ s.keys.length <= L)
theorem doM (X:MachLib) (lo:Nat) (w:World) (M:Nat -> Prop) (b n rb base:Nat) (lay:List Lay) (D:Pl.DB) (s:Pl.St) (h:ExIn w M b lay D) (hc:CSt w rb base s n) (hs:Pl.okSt s) (hv:s.kind = 115 -> s.all = false -> s.items ≠ []) (hok:DoOk D s) (hlo:lo <= base) (hbase:base <= w.heap.size) (hpw:PowAt w) :
   Calls Tryz.prog 36 #[.pointer (some ⟨b,0,none⟩),.iface (tyOf s.kind) (.pointer (some ⟨n,0,none⟩))] w (PostDo lo w M b (Pl.doSt D s)) := by
 rcases hs.kind with hk | hk | hk | hk | hk
 · rw [doSt_99 hk,hk]; exact do_create lo w M b n rb base lay D s h hc hs hk hlo hbase
 · rw [doSt_105 hk,hk]; exact do_insert X lo w M b n rb base lay D s h hc hs hk (by omega)
 · rw [doSt_100 hk,hk]; exact do_delete X lo w M b n rb base lay D s h hc hs hk (by omega)
 · rw [doSt_117 hk,hk]; exact do_update (hok.1 hk) lo w M b n rb base lay D s h hc hs hk (by omega)
 · obtain ⟨N,L,h1,h2,h3,h4,h5⟩ := hok.2 hk
   rw [doSt_115 hk,hk]; exact do_select X N h1 h2 lo w M b n rb base lay D s h hc hs hk (hv hk) h3 h4 h5 (fun _=>hpw)
theorem doSt_err (D:Pl.DB) (s:Pl.St):(Pl.doSt D s).2.err ≠ 0 -> (Pl.doSt D s).2.rows = [] /\ (Pl.doSt D s).2.count = 0 := by
 unfold Pl.doSt Pl.doCreate Pl.doInsert Pl.doDelete Pl.doUpdate Pl.doSelect
 repeat' split
 all_goals first
   | exact fun _=>⟨rfl,rfl⟩
   | exact fun h=>absurd rfl h
structure Live (w:World) (M:Nat -> Prop) (b:Nat) (lay:List Lay) (D:Pl.DB):Prop where
 ex:ExIn w M b lay D
 spell:SpellAt w
 err:ErrAt w
 gs:¬ M 1
 ge:¬ M 8
 pow:PowAt w
 gp:¬ M 5
theorem SpellAt.same {w w':World} (h:SpellAt w) (hk:w'.heap[1]? = w.heap[1]?):SpellAt w' := fun k hk' => by
 rw [World.cell?_of_block hk]; exact h k hk'
theorem ErrAt.same {w w':World} (h:ErrAt w) (hk:w'.heap[8]? = w.heap[8]?):ErrAt w' := by
 obtain ⟨te,pe,hc⟩ := h
 exact ⟨te,pe,by rw [World.cell?_of_block hk]; exact hc⟩
theorem ErrAt.lt {w:World} (h:ErrAt w) : 8 < w.heap.size := by
 obtain ⟨te,pe,hc⟩ := h
 exact lt_of_cell hc
theorem Live.below {w w':World} {M:Nat -> Prop} {b:Nat} {lay:List Lay} {D:Pl.DB} (h:Live w M b lay D) (hb:Below w.heap.size w w'):Live w' M b lay D :=
 ⟨h.ex.below hb,h.spell.below hb,h.err.below hb,h.gs,h.ge,h.pow.keep (hb.block _ h.pow.lt),h.gp⟩
theorem Live.step {w w':World} {M M':Nat -> Prop} {b:Nat} {lay lay':List Lay} {D D':Pl.DB} (h:Live w M b lay D) (hs:DbStep w.heap.size w M b D' w' M' lay'):Live w' M' b lay' D' := by
 have hn:∀ k,k < w.heap.size -> ¬ M k -> ¬ M' k := fun k hk hm hm' => by
   rcases hs.new k hm' with h1 | h1
   · exact hm h1
   · omega
 exact ⟨⟨hs.db,h.ex.rules.keep (hs.keep.block _ ⟨h.ex.glob.2,h.ex.glob.1⟩),hn _ h.ex.glob.2 h.ex.glob.1,Nat.lt_of_lt_of_le h.ex.glob.2 hs.keep.size⟩,h.spell.same (hs.keep.block _ ⟨h.spell.lt,h.gs⟩),h.err.same (hs.keep.block _ ⟨h.err.lt,h.ge⟩),hn _ h.spell.lt h.gs,hn _ h.err.lt h.ge,h.pow.keep (hs.keep.block _ ⟨h.pow.lt,h.gp⟩),hn _ h.pow.lt h.gp⟩
def PostEx (w:World) (M:Nat -> Prop) (b:Nat) (o:Pl.DB × Pl.Ans) (e:Ending) (w':World):Prop := PostDo w.heap.size w M b o e w'
def ExecOk (D:Pl.DB) (l:List UInt8):Prop := ∀ s,Pl.pParse l = some s -> DoOk D s
theorem exec_some {D:Pl.DB} {l:List UInt8} {s:Pl.St} (h:Pl.pParse l = some s):Pl.exec D l = Pl.doSt D s := by unfold Pl.exec; rw [h]
theorem exec_none {D:Pl.DB} {l:List UInt8} (h:Pl.pParse l = none):Pl.exec D l = (D,Pl.no 1) := by unfold Pl.exec; rw [h]
theorem ex_none {w w1:World} {M:Nat -> Prop} {b:Nat} {lay:List Lay} {D:Pl.DB} (h:DbW w M b lay D) (hb:Below (w.heap.size + 1) (w.alloc boxO) w1):w1.heap[w.heap.size]? = some boxO /\ ∀ w'',But w.heap.size w1 w'' -> PostEx w M b (D,Pl.no 1) (.returned (.tuple #[.agg #[.slice none 0 0,.int .i64 0],.int .i64 1])) w'' :=
 sel_err (lo := w.heap.size) (er := 1) h hb
theorem ex_done {w w1 w2 w3:World} {o8:Obj} {M M':Nat -> Prop} {b:Nat} {lay lay':List Lay} {D:Pl.DB} {o:Pl.DB × Pl.Ans} (h:DbW w M b lay D) (hb:Below (w.heap.size + 1) (w.alloc boxO) w1) (hs:DbStep (w.heap.size + 1) w1 M b o.1 w2 M' lay') (h3:But w.heap.size w2 w3):DbStep w.heap.size w M b o.1 (w3.alloc o8) M' lay' := by
 have hz1 := hb.size
 have hz2 := hs.keep.size
 simp at hz1
 have hnb:¬ M w.heap.size := fun hm=>by have := h.lt _ hm; omega
 have hnb':¬ M' w.heap.size := fun hm=>by
   rcases hs.new _ hm with h' | h'
   · exact hnb h'
   · omega
 have hz3 := h3.size
 have hk:∀ k,k ≠ w.heap.size -> k < w2.heap.size -> (w3.alloc o8).heap[k]? = w2.heap[k]? := fun k hk hk2=>by
   rw [Below.heap_alloc _ _ _ (by omega),h3.block k hk]
 refine ⟨hs.db.keep (by simp; omega) (fun k hm=>hk k (fun e=>hnb' (e ▸ hm)) (hs.db.lt k hm)),hs.sub,fun k hk=>(hs.new k hk).imp id (fun h=>by omega),h3.os.trans (hs.keep.os.trans hb.os),h3.tape.trans (hs.keep.tape.trans hb.tape),h3.output.trans (hs.keep.output.trans hb.output),by simp; omega,fun k hk' => ?_⟩
 have := hk'.1
 rw [hk k (by omega) (by omega),hs.keep.block k ⟨by omega,hk'.2⟩,hb.block k (by omega),Below.heap_alloc _ _ _ this]
theorem ex_box {w w1 w2:World} {M M':Nat -> Prop} {b:Nat} {lay lay':List Lay} {D D':Pl.DB} {lo:Nat} (h:DbW w M b lay D) (hb:Below (w.heap.size + 1) (w.alloc boxO) w1) (hs:DbStep lo w1 M b D' w2 M' lay'):w2.heap[w.heap.size]? = some boxO := by
 have hz1 := hb.size
 simp at hz1
 have hnb:¬ M w.heap.size := fun hm=>by have := h.lt _ hm; omega
 rw [hs.keep.block _ ⟨by omega,hnb⟩,hb.block _ (by omega),blk_new]
theorem OutW.slice {base:Nat} {w:World} {M M':Nat -> Prop} {rows:List (List Pl.V)} {rv:Value} (h:OutW base w M M' rows rv):∃ a c,rv = .slice a rows.length c := by
 obtain ⟨qs,h1,h2,_⟩ := h
 obtain ⟨a,c,h⟩ := own_slice1 h2
 exact ⟨a,c,by rw [h,h1,List.length_map]⟩
theorem execM (L:LexLib) (X:MachLib) (t:List UInt8) (w:World) (M:Nat -> Prop) (b:Nat) (lay:List Lay) (D:Pl.DB) (h:Live w M b lay D) (ht:t.length <= 1048576) (hok:ExecOk D t) :
   Calls Tryz.prog 18 #[.pointer (some ⟨b,0,none⟩),.string ⟨t.toArray⟩] w (PostEx w M b (Pl.exec D t)) := by
 have hb0:Below w.heap.size w (w.alloc boxO) := (Below.refl _ _).alloc (Nat.le_refl _) _
 have HR := hide (readC L ⟨t.toArray⟩ (w.alloc boxO) (by simpa [ByteArray.size] using ht) (h.below hb0).spell (h.below hb0).err)
 have HL := hide h
 have HOk := hide hok
 clear hb0 h hok ht
 go_enter Tryz.func18,Tryz.ntmps18
 go_wp2_with fail
 refine (unhide HR).mono ?_
 rintro e w1 ⟨hb1,hp⟩
 simp only [World.size_alloc] at hb1 hp
 clear HR
 cases hpp:Pl.pParse t with
 | none =>
   rw [hpp] at hp
   simp only at hp
   subst hp
   obtain ⟨hx,he⟩ := ex_none HL.out.ex.db hb1
   rw [<- exec_none hpp] at he
   have x0 := blk_cell hx 0
   have x1 := blk_cell hx 1
   have xf0 := blk_frozen hx 0
   have xf1 := blk_frozen hx 1
   simp at x0 x1
   have hxz := lt_of_blk hx
   have HE := hide he
   have HX := hide hx
   clear he hpp hb1 hx
   go_wp2_with fail
   refine bodyPost_ret (v := .tuple #[.agg #[.slice none 0 0,.int .i64 0],.int .i64 1]) ?_ rfl (HE.out _ (((But.refl _ _).set 0 (.slice none 0 0)).set 1 (.int .i64 0)))
   have rb := (blk_set (blk_set HX.out 0 (.slice none 0 0)) 1 (.int .i64 0))
   have r0 := blk_cell rb 0
   have r1 := blk_cell rb 1
   simp at r0 r1
   simp [results,Tryz.results18,go_sem,r0,r1]
 | some s =>
   rw [hpp] at hp
   simp only at hp
   obtain ⟨rb,n,rfl,hrb,hst⟩ := hp
   have hz1 := hb1.size
   simp only [World.size_alloc] at hz1
   have hb1':Below w.heap.size w w1 := ((Below.refl _ _).alloc (Nat.le_refl _) boxO).trans (hb1.mono (by omega))
   have HDo := hide (doM X (w.heap.size + 1) w1 M b n rb (w.heap.size + 1) lay D s (HL.out.below hb1').ex hst (Pl.parse_ok hpp) (Pl.parse_vals hpp) (HOk.out s hpp) (Nat.le_refl _) hz1 (HL.out.below hb1').pow)
   have HErr := hide (doSt_err D s)
   have HEq:Hid (Pl.exec D t = Pl.doSt D s) := exec_some hpp
   generalize hout:Pl.doSt D s = out at *
   have HB1 := hide hb1
   clear hpp hst hb1 hrb hb1' hout
   go_wp2_with fail
   refine (unhide HDo).mono ?_
   rintro e w2 ⟨rv,M',lay',rfl,hs2,ho2⟩
   have hx := ex_box HL.out.ex.db HB1.out hs2
   have x0 := blk_cell hx 0
   have x1 := blk_cell hx 1
   have xf0 := blk_frozen hx 0
   have xf1 := blk_frozen hx 1
   simp at x0 x1
   have hxz := lt_of_blk hx
   have HX := hide hx
   obtain ⟨ra,rc,hrv⟩ := ho2.slice
   subst hrv
   have hz2 := hs2.keep.size
   have HOut:Hid (∀ o8 w3,But w.heap.size w2 w3 -> OutW w.heap.size (w3.alloc o8) M M' out.2.rows (.slice ra out.2.rows.length rc)) := fun o8 w3 h3=>ho2.keep (fun k hk hk2=>by rw [Below.heap_alloc _ _ _ (by rw [h3.size]; exact hk2),h3.block k (by omega)]) (by omega)
   have HSt:Hid (∀ o8 w3,But w.heap.size w2 w3 -> DbStep w.heap.size w M b out.1 (w3.alloc o8) M' lay') := fun o8 w3 h3=>ex_done HL.out.ex.db HB1.out hs2 h3
   by_cases h0:out.2.err = 0
   · have HE:Hid (∀ o8 w3,But w.heap.size w2 w3 -> PostEx w M b (Pl.exec D t) (.returned (.tuple #[.agg #[.slice ra out.2.rows.length rc,.int .i64 out.2.count],.int .i64 0])) (w3.alloc o8)) := fun o8 w3 h3=>by rw [HEq.out]; exact ⟨_,M',lay',by rw [h0]; rfl,HSt.out _ _ h3,HOut.out _ _ h3⟩
     rw [h0]
     clear HOut HSt hs2 ho2 HDo HErr hx h0
     generalize PostEx w M b (Pl.exec D t) = Post at *
     go_wp2_with fail
     refine bodyPost_ret (v := .tuple #[.agg #[.slice ra out.2.rows.length rc,.int .i64 out.2.count],.int .i64 0]) ?_ rfl (HE.out _ _ (((But.refl _ _).set 0 (.slice ra out.2.rows.length rc)).set 1 (.int .i64 out.2.count)))
     have rb := blk_alloc (blk_set (blk_set HX.out 0 (.slice ra out.2.rows.length rc)) 1 (.int .i64 out.2.count)) (.cells #[.slice ra out.2.rows.length rc,.int .i64 out.2.count] 36)
     have r0 := blk_cell rb 0
     have r1 := blk_cell rb 1
     simp at r0 r1
     simp [results,Tryz.results18,go_sem,r0,r1]
   · obtain ⟨hr,hcn⟩ := HErr.out h0
     have hne:((out.2.err:Int) != 0) = true := by simp; omega
     have HE:Hid (∀ o8 w3,But w.heap.size w2 w3 -> PostEx w M b (Pl.exec D t) (.returned (.tuple #[.agg #[.slice none 0 0,.int .i64 0],.int .i64 (out.2.err:Nat)])) (w3.alloc o8)) := fun o8 w3 h3=>by rw [HEq.out]; exact ⟨_,M',lay',by rw [hcn],HSt.out _ _ h3,by rw [hr]; exact OutW.nil _ _ _ _⟩
     clear HOut HSt hs2 ho2 HDo HErr hx hr hcn
     generalize PostEx w M b (Pl.exec D t) = Post at *
     go_wp2_with fail
     refine bodyPost_ret (v := .tuple #[.agg #[.slice none 0 0,.int .i64 0],.int .i64 (out.2.err:Nat)]) ?_ rfl (HE.out _ _ (((But.refl _ _).set 0 (.slice none 0 0)).set 1 (.int .i64 0)))
     have rb := blk_alloc (blk_set (blk_set HX.out 0 (.slice none 0 0)) 1 (.int .i64 0)) (.cells #[.slice ra out.2.rows.length rc,.int .i64 out.2.count] 36)
     have r0 := blk_cell rb 0
     have r1 := blk_cell rb 1
     simp at r0 r1
     simp [results,Tryz.results18,go_sem,r0,r1]
end Go.Proofs.YtojdpjpldokjmaaGreatDoor
