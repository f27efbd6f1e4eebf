/- A SELECT in memory; the code's compileQuery. -/
import Derived.Test.YtojdpjpldokjmaaGreatDoorO18
set_option maxHeartbeats 60000000
set_option maxRecDepth 100000
namespace Go.Proofs.YtojdpjpldokjmaaGreatDoor.Pl
theorem star_ok (c:Col):okT (tName c.src c.name) := by
 refine ⟨?_,?_,?_⟩
 · simp [tName,Wf]
 · simp [tName,WfK]
 · simp [tName,sz]
theorem stars_ok (cols:List Col):∀ t ∈ stars cols,okT t := by
 intro t ht
 obtain ⟨c,_,rfl⟩ := List.mem_map.1 ht
 exact star_ok c
def chosenOf (D:DB) (s:St) (is:List Nat):Out (List (List V)) := match joinsAll D [] [[]] is s.sources with
 | .error e=>.error e
 | .ok rows=>chosen (scopes D is s.sources) s rows
theorem choose_1 {D:DB} {s:St} {er:Nat} (h:srcsGo D [] s.sources = .error er):choose D s = .error er := by unfold choose; rw [h]
theorem choose_2 {D:DB} {s:St} {is:List Nat} {er:Nat} (h:srcsGo D [] s.sources = .ok is) (h2:onsAll D [] is s.sources = some er):choose D s = .error er := by unfold choose; rw [h]; simp only [h2]
theorem choose_3 {D:DB} {s:St} {is:List Nat} {er:Nat} (h:srcsGo D [] s.sources = .ok is) (h2:onsAll D [] is s.sources = none) (h3:tcAll (scopes D is s.sources) (valuesOf s (scopes D is s.sources)) = some er):choose D s = .error er := by unfold choose; rw [h]; simp only [h2,h3]
theorem choose_4 {D:DB} {s:St} {is:List Nat} {er:Nat} (h:srcsGo D [] s.sources = .ok is) (h2:onsAll D [] is s.sources = none) (h3:tcAll (scopes D is s.sources) (valuesOf s (scopes D is s.sources)) = none) (h4:tcAs (scopes D is s.sources) (cond s.whr) 3 = some er):choose D s = .error er := by unfold choose; rw [h]; simp only [h2,h3,h4]
theorem choose_5 {D:DB} {s:St} {is:List Nat} {er:Nat} (h:srcsGo D [] s.sources = .ok is) (h2:onsAll D [] is s.sources = none) (h3:tcAll (scopes D is s.sources) (valuesOf s (scopes D is s.sources)) = none) (h4:tcAs (scopes D is s.sources) (cond s.whr) 3 = none) (h5:tcAll (scopes D is s.sources) (s.keys.map (·.tree)) = some er):choose D s = .error er := by unfold choose; rw [h]; simp only [h2,h3,h4,h5]
theorem choose_6 {D:DB} {s:St} {is:List Nat} (h:srcsGo D [] s.sources = .ok is) (h2:onsAll D [] is s.sources = none) (h3:tcAll (scopes D is s.sources) (valuesOf s (scopes D is s.sources)) = none) (h4:tcAs (scopes D is s.sources) (cond s.whr) 3 = none) (h5:tcAll (scopes D is s.sources) (s.keys.map (·.tree)) = none):choose D s = chosenOf D s is := by unfold choose chosenOf; rw [h]; simp only [h2,h3,h4,h5]; cases joinsAll D [] [[]] is s.sources <;> rfl
end Go.Proofs.YtojdpjpldokjmaaGreatDoor.Pl
namespace Go.Proofs.YtojdpjpldokjmaaGreatDoor
open Go.RowKit Go.Deep
set_option linter.unusedSimpArgs false
set_option linter.unusedVariables false
def limV (l:Int):Int := if l = -1 then 9223372036854775807 else l
structure SelIn (w:World) (n:Nat) (s:Pl.St) (ss:List (Pl.It × Value)) (vs:List (Pl.T × Value)) (ks:List Key) (u x v o:Value):Prop where
 blk:w.heap[n]? = some (.cells #[.bool s.distinct,u,x,v,o,.int .i64 (limV s.limit),.int .i64 s.offset] 229)
 srcs:SrcsIn w ss x
 srcsE:ss.map (·.1) = s.sources
 all:s.all = true -> u = .slice none 0 0
 vals:s.all = false -> TreesW w w.heap.size vs u /\ vs.map (·.1) = s.items.map (·.tree) /\ vs ≠ []
 whr:TrW w w.heap.size s.whr v
 keys:KeysW w w.heap.size ks o
 keysE:ks.map (·.1) = s.keys.map (·.tree)
 keysD:dsOf ks = s.keys.map (·.mark)
 ok:Pl.okSt s
 kind:s.kind = 115
theorem SelIn.below {w w':World} {n:Nat} {s:Pl.St} {ss:List (Pl.It × Value)} {vs:List (Pl.T × Value)} {ks:List Key} {u x v o:Value} (h:SelIn w n s ss vs ks u x v o) (hb:Below w.heap.size w w'):SelIn w' n s ss vs ks u x v o :=
 ⟨below_blk hb (lt_of_blk h.blk) h.blk,h.srcs.below hb,h.srcsE,h.all,fun ha=>⟨(h.vals ha).1.below hb,(h.vals ha).2⟩,(h.whr.keep (fun k hk=>hb.block k hk)).more hb.size,⟨h.keys.1.below hb,fun k hk=>((h.keys.2 k hk).keep (fun j hj=>hb.block j hj)).more hb.size⟩,h.keysE,h.keysD,h.ok,h.kind⟩
theorem valsM {w:World} {n:Nat} {s:Pl.St} {ss:List (Pl.It × Value)} {vs:List (Pl.T × Value)} {ks:List Key} {u x v o:Value} (h:SelIn w n s ss vs ks u x v o) (cols:List Pl.Col) (cv:Value) (hcv:RowsW w w.heap.size 3 colC cols cv) (hl:cols.length <= 1000) :
   Calls Tryz.prog 171 #[.pointer (some ⟨n,0,none⟩),cv] w (PostVals w (Pl.valuesOf s cols)) := by
 have c1 := blk_cell h.blk 1
 simp at c1
 have hn := lt_of_blk h.blk
 unfold Pl.valuesOf
 cases ha:s.all with
 | true =>
   rw [h.all ha] at c1
   simp only [if_true]
   exact valuesOfM cols n cv w hn c1 hcv hl
 | false =>
   obtain ⟨h1,h2,h3⟩ := h.vals ha
   simp only [Bool.false_eq_true,if_false]
   obtain ⟨a,c,rfl,h4⟩ := h1.1
   obtain ⟨g,rfl,hg,_⟩ := h4 h3
   refine (valuesOfM' _ _ _ n cv w hn c1).mono ?_
   rintro e w' ⟨rfl,rfl⟩
   exact ⟨Below.refl _ _,_,vs,rfl,h2,h1⟩
theorem vals_ok {s:Pl.St} (hs:Pl.okSt s) (hk:s.kind = 115) (cols:List Pl.Col):∀ t ∈ Pl.valuesOf s cols,Pl.okT t := by
 unfold Pl.valuesOf
 intro t ht
 split at ht
 · exact Pl.stars_ok cols t ht
 · obtain ⟨i,hi,rfl⟩ := List.mem_map.1 ht
   exact hs.items (by omega) i hi
theorem vals_len {s:Pl.St} (hs:Pl.okSt s) (cols:List Pl.Col) (hc:cols.length <= 600):(Pl.valuesOf s cols).length <= 600 := by
 unfold Pl.valuesOf
 split
 · simp [Pl.stars]; exact hc
 · have := hs.len; simpa using this
theorem tcAll_err {cols:List Pl.Col}:∀ {ts:List Pl.T} {er:Nat},Pl.tcAll cols ts = some er -> er = 2 \/ er = 3
 | [],er,h=>by simp [Pl.tcAll] at h
 | t :: ts,er,h=>by
   rw [Pl.tcAll] at h
   cases ht:Pl.tc cols t with
   | error e =>
     rw [ht] at h
     simp at h
     subst h
     have:Pl.tcAs cols t 0 = some e := by unfold Pl.tcAs; rw [ht]
     exact tcAs_err this
   | ok ty=>rw [ht] at h; exact tcAll_err h
structure QueryW (w:World) (D:Pl.DB) (lay:List Lay) (s:Pl.St) (is:List Nat) (ps:List Pl.Src) (vs os:List (Pl.T × Value)) (sv vv wv ov:Value):Prop where
 is_:is.length = s.sources.length /\ ∀ i ∈ is,i < D.length
 ons:Pl.onsAll D [] is s.sources = none
 srcL:SrcL D lay [] is s.sources ps
 srcs:RowsW w w.heap.size 3 srcC ps sv
 srcP:∀ x ∈ ps,ProgW w w.heap.size x.cols x.c x.cv
 vals:ProgsW w w.heap.size (Pl.scopes D is s.sources) vs vv
 valsE:vs.map (·.1) = Pl.valuesOf s (Pl.scopes D is s.sources)
 valsF:∀ p ∈ vs,Pl.Fine (Pl.scopes D is s.sources) p.1
 whr:ProgW w w.heap.size (Pl.scopes D is s.sources) (Pl.cond s.whr) wv
 whrF:Pl.Fine (Pl.scopes D is s.sources) (Pl.cond s.whr)
 ords:ProgsW w w.heap.size (Pl.scopes D is s.sources) os ov
 ordsE:os.map (·.1) = s.keys.map (·.tree)
 ordsF:∀ p ∈ os,Pl.Fine (Pl.scopes D is s.sources) p.1
theorem QueryW.below {w w':World} {D:Pl.DB} {lay:List Lay} {s:Pl.St} {is:List Nat} {ps:List Pl.Src} {vs os:List (Pl.T × Value)} {sv vv wv ov:Value} (h:QueryW w D lay s is ps vs os sv vv wv ov) (hb:Below w.heap.size w w'):QueryW w' D lay s is ps vs os sv vv wv ov :=
 ⟨h.is_,h.ons,h.srcL,h.srcs.below hb,fun x hx=>(h.srcP x hx).below hb,h.vals.below hb,h.valsE,h.valsF,h.whr.below hb,h.whrF,h.ords.below hb,h.ordsE,h.ordsF⟩
def PostQ (w:World) (D:Pl.DB) (lay:List Lay) (s:Pl.St) (e:Ending) (w':World):Prop := Below w.heap.size w w' /\
 ((∃ er:Nat,Pl.choose D s = .error er /\ (er = 2 \/ er = 3) /\ e = .returned (.tuple #[.agg #[.slice none 0 0,.slice none 0 0,.slice none 0 0,.slice none 0 0],.int .i64 (er:Nat)])) \/
  (∃ is ps vs os sv vv wv ov,Pl.choose D s = Pl.chosenOf D s is /\ e = .returned (.tuple #[.agg #[sv,vv,wv,ov],.int .i64 0]) /\ QueryW w' D lay s is ps vs os sv vv wv ov))
theorem gen_ne (cols:List Pl.Col):∀ (t:Pl.T) (b:Nat),Pl.Wf t -> Pl.gen cols b t ≠ []
 | .nil,b,h=>h.elim
 | .node x y p l r,b,h=>by
   unfold Pl.gen
   split
   · simp
   · split
     · simp
     · split
       · simp
       · split <;> simp
theorem RowsW.apart {α:Type} {w w':World} {hi n k:Nat} {f:α -> List Value} {xs:List α} {v z:Value} (h:RowsW w hi n f xs v) (hz:w.cell? ⟨k,0,none⟩ = some z) (hf:∀ x ∈ xs,∃ y,(f x)[0]? = some y /\ y ≠ z) (hk:∀ j,j ≠ k -> w'.heap[j]? = w.heap[j]?):RowsW w' hi n f xs v := by
 obtain ⟨a,cap,rfl,h2⟩ := h
 refine ⟨a,cap,rfl,fun hn=>?_⟩
 obtain ⟨g,rfl,hg,h3⟩ := h2 hn
 refine ⟨g,rfl,hg,fun i c hc j u hu=>(World.cell?_of_block (hk g ?_)).trans (h3 i c hc j u hu)⟩
 rintro rfl
 obtain ⟨x,xs',rfl⟩ := List.exists_cons_of_ne_nil hn
 obtain ⟨y,hy,hyz⟩ := hf x (by simp)
 have := h3 0 x rfl 0 y hy
 simp at this
 rw [hz] at this
 injection this with this
 exact hyz this.symm
theorem ProgW.apart {w w':World} {hi k:Nat} {cols:List Pl.Col} {t:Pl.T} {cv:Value} (h:ProgW w hi cols t cv) (hz:w.cell? ⟨k,0,none⟩ = some (.slice none 0 0)) (hk:∀ j,j ≠ k -> w'.heap[j]? = w.heap[j]?):ProgW w' hi cols t cv :=
 RowsW.apart h hz (fun x _=>⟨_,rfl,by simp⟩) hk
theorem ProgsW.apart {w w':World} {hi k:Nat} {cols:List Pl.Col} {ps:List (Pl.T × Value)} {v:Value} (h:ProgsW w hi cols ps v) (hf:∀ p ∈ ps,Pl.Fine cols p.1) (hz:w.cell? ⟨k,0,none⟩ = some (.slice none 0 0)) (hk:∀ j,j ≠ k -> w'.heap[j]? = w.heap[j]?):ProgsW w' hi cols ps v := by
 refine ⟨RowsW.apart h.1 hz (fun x hx=>⟨_,rfl,fun e=>?_⟩) hk,fun p hp=>ProgW.apart (h.2 p hp) hz hk⟩
 obtain ⟨a,c,e2,h3⟩ := h.2 x hx
 rw [e] at e2
 injection e2 with e3 e4 e5
 exact gen_ne cols x.1 0 (hf x hx).1.1 (List.length_eq_zero_iff.1 e4.symm)
theorem QueryW.apart {w w':World} {k:Nat} {D:Pl.DB} {lay:List Lay} {s:Pl.St} {is:List Nat} {ps:List Pl.Src} {vs os:List (Pl.T × Value)} {sv vv wv ov:Value} (h:QueryW w D lay s is ps vs os sv vv wv ov) (hz:w.cell? ⟨k,0,none⟩ = some (.slice none 0 0)) (hs:w'.heap.size = w.heap.size) (hk:∀ j,j ≠ k -> w'.heap[j]? = w.heap[j]?):QueryW w' D lay s is ps vs os sv vv wv ov := by
 refine ⟨h.is_,h.ons,h.srcL,?_,fun x hx=>?_,?_,h.valsE,h.valsF,?_,h.whrF,?_,h.ordsE,h.ordsF⟩
 · rw [hs]; exact RowsW.apart h.srcs hz (fun x _=>⟨_,rfl,by simp⟩) hk
 · rw [hs]; exact (h.srcP x hx).apart hz hk
 · rw [hs]; exact h.vals.apart h.valsF hz hk
 · rw [hs]; exact h.whr.apart hz hk
 · rw [hs]; exact h.ords.apart h.ordsF hz hk
def put4 (w:World) (k:Nat) (a b c d:Value):World := (((w.setCell ⟨k,0,none⟩ a).setCell ⟨k,1,none⟩ b).setCell ⟨k,2,none⟩ c).setCell ⟨k,3,none⟩ d
theorem put4_blk {w:World} {k:Nat} {p q r t:Value} {T:TypeId} (h:w.heap[k]? = some (.cells #[p,q,r,t] T)) (a b c d:Value):(put4 w k a b c d).heap[k]? = some (.cells #[a,b,c,d] T) := by
 unfold put4
 have := blk_set (blk_set (blk_set (blk_set h 0 a) 1 b) 2 c) 3 d
 simpa using this
theorem put4_ne {w:World} {k:Nat} (a b c d:Value) (j:Nat) (hj:j ≠ k):(put4 w k a b c d).heap[j]? = w.heap[j]? := by
 unfold put4
 rw [Below.heap_setCell _ _ _ _ hj,Below.heap_setCell _ _ _ _ hj,Below.heap_setCell _ _ _ _ hj,Below.heap_setCell _ _ _ _ hj]
theorem put4_below {w w1:World} (h:Below w.heap.size w w1) (a b c d:Value):Below w.heap.size w (put4 w1 w.heap.size a b c d) := by
 unfold put4
 exact (((h.setCell (Nat.le_refl _) a).setCell (Nat.le_refl _) b).setCell (Nat.le_refl _) c).setCell (Nat.le_refl _) d
theorem put4_size (w:World) (k:Nat) (a b c d:Value):(put4 w k a b c d).heap.size = w.heap.size := by unfold put4; simp [size_set]
theorem q_err {w w1:World} {D:Pl.DB} {lay:List Lay} {s:Pl.St} (hb:Below w.heap.size w w1) {er:Nat} (h:Pl.choose D s = .error er) (her:er = 2 \/ er = 3):PostQ w D lay s (.returned (.tuple #[.agg #[.slice none 0 0,.slice none 0 0,.slice none 0 0,.slice none 0 0],.int .i64 (er:Nat)])) (put4 w1 w.heap.size (.slice none 0 0) (.slice none 0 0) (.slice none 0 0) (.slice none 0 0)) :=
 ⟨put4_below hb _ _ _ _,.inl ⟨er,h,her,rfl⟩⟩
theorem compileQueryM (w:World) (M:Nat -> Prop) (b n:Nat) (lay:List Lay) (D:Pl.DB) (s:Pl.St) (ss:List (Pl.It × Value)) (vs:List (Pl.T × Value)) (ks:List Key) (u x v o:Value) (h:DbW w M b lay D) (hs:SelIn w n s ss vs ks u x v o) :
   Calls Tryz.prog 110 #[.pointer (some ⟨b,0,none⟩),.pointer (some ⟨n,0,none⟩)] w (PostQ w D lay s) := by
 have c2 := blk_cell hs.blk 2
 have hn := lt_of_blk hs.blk
 simp at c2
 have hB0:Below w.heap.size w (w.alloc (.cells #[.slice none 0 0,.slice none 0 0,.slice none 0 0,.slice none 0 0] 221)) := (Below.refl _ _).alloc (Nat.le_refl _) _
 have HSrc := hide (compileSourcesM ss x _ M b lay D (h.below hB0) (hs.srcs.below hB0))
 rw [hs.srcsE] at HSrc
 have HS := hide hs
 have HDb := hide h
 have HB0 := hide hB0
 have HBlk0 := hide (blk_new w (.cells #[.slice none 0 0,.slice none 0 0,.slice none 0 0,.slice none 0 0] 221))
 obtain ⟨xa,xc,rfl⟩ := hs.srcs.rows.slice
 clear h hs hB0
 go_enter Tryz.func110,Tryz.ntmps110
 go_wp2_with fail
 refine (unhide HSrc).mono ?_
 rintro e w1 ⟨hb1,hpost⟩
 clear HSrc
 have hB1:Below w.heap.size w w1 := HB0.out.trans (hb1.mono HB0.out.size)
 have hq1 := below_blk hb1 (by simp) HBlk0.out
 have HB1 := hide hB1
 have HQ1 := hide hq1
 have hz1 := lt_of_blk hq1
 rcases hpost with ⟨er,herr,her,rfl⟩ | ⟨is,ps,tv,sv,cv,hok,hons,hlen,hI,rfl⟩
 · have hne:((er:Int) != 0) = true := by simp; omega
   have HE := hide (q_err (lay := lay) hB1 (herr.elim (fun h=>Pl.choose_1 h) (fun ⟨is,h1,h2⟩=>Pl.choose_2 h1 h2)) her)
   have q0 := blk_cell hq1 0
   have q1 := blk_cell hq1 1
   have q2 := blk_cell hq1 2
   have q3 := blk_cell hq1 3
   have f0 := blk_frozen hq1 0
   have f1 := blk_frozen hq1 1
   have f2 := blk_frozen hq1 2
   have f3 := blk_frozen hq1 3
   simp at q0 q1 q2 q3
   clear herr her hb1 hB1 hq1
   go_wp2_with fail
   refine bodyPost_ret (v := .tuple #[.agg #[.slice none 0 0,.slice none 0 0,.slice none 0 0,.slice none 0 0],.int .i64 (er:Nat)]) ?_ rfl HE.out
   have rb := put4_blk HQ1.out (.slice none 0 0) (.slice none 0 0) (.slice none 0 0) (.slice none 0 0)
   have r0 := blk_cell rb 0
   have r1 := blk_cell rb 1
   have r2 := blk_cell rb 2
   have r3 := blk_cell rb 3
   simp [put4] at r0 r1 r2 r3
   simp [results,Tryz.results110,go_sem,r0,r1,r2,r3]
 · obtain ⟨his,hisd⟩ := Pl.srcsGo_len hok
   have hcols:RowsW w1 w1.heap.size 3 colC (Pl.scopes D is s.sources) cv := by
     have := own_rows (f := colC) (fun _=>rfl) hI.cols (Nat.le_refl _)
     rw [colsAt,List.take_length,his,List.take_length] at this
     exact this
   have hSL:SrcL D lay [] is s.sources ps := srcL_of hlen his (fun j x hx=>by simpa [colsAt] using hI.fits j x hx)
   have hsrcs:RowsW w1 w1.heap.size 3 srcC ps sv := own_rows (f := srcC) (fun _=>rfl) hI.srcs (Nat.le_refl _)
   have hsrcP:∀ x ∈ ps,ProgW w1 w1.heap.size x.cols x.c x.cv := fun x hx=>(hI.progs x hx).prog (fun k hk=>hk.1)
   obtain ⟨sva,svc,hsv⟩ := own_slice1 hI.srcs
   obtain ⟨cva,cvm,cvc,rfl⟩ := own_slice hI.cols
   subst hsv
   have hl15:(Pl.scopes D is s.sources).length <= 600 := by
     have h1 := colsAt_len HDb.out.ok is s.sources hisd
     have h2 := HS.out.srcs.len
     have h3 := congrArg List.length HS.out.srcsE
     simp at h3
     omega
   generalize hcs:Pl.scopes D is s.sources = cols at *
   have hS1 := HS.out.below hB1
   have HVal := hide (valsM hS1 cols _ hcols (by omega))
   have HCols := hide hcols
   have HSL := hide hSL
   have HSrcs := hide hsrcs
   have HSrcP := hide hsrcP
   have HOk := hide hok
   have HOns := hide hons
   have HIs := hide (And.intro his hisd)
   have HCs := hide hcs
   clear hcols hSL hsrcs hsrcP hI hok hons his hisd hcs hS1 hb1 hB1 hq1 hlen
   go_wp2_with fail
   refine (unhide HVal).mono ?_
   rintro e w2 ⟨hb2,vv0,vs0,rfl,hvs0,htr2⟩
   have hB2:Below w.heap.size w w2 := HB1.out.trans (hb2.mono HB1.out.size)
   have hq2 := below_blk hb2 hz1 HQ1.out
   have HB2 := hide hB2
   have HQ2 := hide hq2
   have hz2 := lt_of_blk hq2
   have hS2 := HS.out.below hB2
   obtain ⟨v0a,v0c,rfl⟩ := htr2.1.slice
   have hok0:∀ p ∈ vs0,Pl.okT p.1 := fun p hp=>vals_ok HS.out.ok HS.out.kind cols p.1 (by rw [<- hvs0]; exact List.mem_map_of_mem hp)
   have hl0:vs0.length <= 1000 := by
     have h1 := vals_len HS.out.ok cols hl15
     have h2 := congrArg List.length hvs0
     simp at h2
     omega
   have HCa := hide (compileAllM cols vs0 _ (.slice cva cvm cvc) w2 hS2.srcs.rules hS2.srcs.glob htr2 hok0 (HCols.out.below hb2) (by omega) hl0)
   have HVs0 := hide hvs0
   have HOk0 := hide hok0
   have Hb2 := hide hb2
   clear HVal hb2 hB2 hq2 hS2 hvs0 htr2 hok0
   go_wp2_with fail
   refine (unhide HCa).mono ?_
   rintro e w3 ⟨hb3,hpost⟩
   have hB3:Below w.heap.size w w3 := HB2.out.trans (hb3.mono HB2.out.size)
   have hq3 := below_blk hb3 hz2 HQ2.out
   have HB3 := hide hB3
   have HQ3 := hide hq3
   have hz3 := lt_of_blk hq3
   have Hb3 := hide hb3
   clear HCa
   rcases hpost with ⟨er,herr,rfl⟩ | ⟨hno,vs1,vv1,hvs1,rfl,hprg3⟩
   · have her := tcAll_err herr
     have hne:((er:Int) != 0) = true := by simp; omega
     have HE := hide (q_err (lay := lay) hB3 (Pl.choose_3 HOk.out HOns.out (by rw [HCs.out,<- HVs0.out]; exact herr)) her)
     have q0 := blk_cell hq3 0
     have q1 := blk_cell hq3 1
     have q2 := blk_cell hq3 2
     have q3 := blk_cell hq3 3
     have f0 := blk_frozen hq3 0
     have f1 := blk_frozen hq3 1
     have f2 := blk_frozen hq3 2
     have f3 := blk_frozen hq3 3
     simp at q0 q1 q2 q3
     clear herr her hb3 hB3 hq3
     go_wp2_with fail
     refine bodyPost_ret (v := .tuple #[.agg #[.slice none 0 0,.slice none 0 0,.slice none 0 0,.slice none 0 0],.int .i64 (er:Nat)]) ?_ rfl HE.out
     have rb := put4_blk HQ3.out (.slice none 0 0) (.slice none 0 0) (.slice none 0 0) (.slice none 0 0)
     have r0 := blk_cell rb 0
     have r1 := blk_cell rb 1
     have r2 := blk_cell rb 2
     have r3 := blk_cell rb 3
     simp [put4] at r0 r1 r2 r3
     simp [results,Tryz.results110,go_sem,r0,r1,r2,r3]
   · have hS3 := HS.out.below hB3
     have d3 := blk_cell hS3.blk 3
     simp at d3
     have hn3 := lt_of_blk hS3.blk
     obtain ⟨va,hva⟩ := hS3.whr.ptr
     have HCond := hide (conditionM s.whr cols v (.slice cva cvm cvc) w3 ⟨hS3.srcs.rules,hS3.srcs.glob,hS3.whr,hS3.ok.whr,(HCols.out.below Hb2.out).below hb3,by omega⟩)
     rw [hva] at HCond d3
     obtain ⟨v1a,v1c,rfl⟩ := hprg3.1.slice
     have HNo := hide hno
     have HVs1 := hide hvs1
     have HPr3 := hide hprg3
     clear hb3 hB3 hq3 hS3 hno hvs1 hprg3 hva
     go_wp2_with fail
     refine (unhide HCond).mono ?_
     rintro e w4 ⟨hb4,hpost⟩
     have hB4:Below w.heap.size w w4 := HB3.out.trans (hb4.mono HB3.out.size)
     have hq4 := below_blk hb4 hz3 HQ3.out
     have Hb4 := hide hb4
     have hz4 := lt_of_blk hq4
     clear HCond
     rcases hpost with ⟨er,herr,rfl⟩ | ⟨wv,htc,rfl,hprog4⟩
     · have her := tcAs_err herr
       have hne:((er:Int) != 0) = true := by simp; omega
       have HE:Hid (PostQ w D lay s (.returned (.tuple #[.agg #[.slice none 0 0,.slice none 0 0,.slice none 0 0,.slice none 0 0],.int .i64 (er:Nat)])) ((put4 w4 w.heap.size (.slice none 0 0) (.slice none 0 0) (.slice none 0 0) (.slice none 0 0)).alloc (.cells #[.slice none 0 0] 204))) :=
         ⟨(put4_below hB4 (.slice none 0 0) (.slice none 0 0) (.slice none 0 0) (.slice none 0 0)).alloc (by rw [put4_size]; omega) _,.inl ⟨er,Pl.choose_4 HOk.out HOns.out (by rw [HCs.out,<- HVs0.out]; exact HNo.out) (by rw [HCs.out]; exact herr),her,rfl⟩⟩
       have q0 := blk_cell hq4 0
       have q1 := blk_cell hq4 1
       have q2 := blk_cell hq4 2
       have q3 := blk_cell hq4 3
       have f0 := blk_frozen hq4 0
       have f1 := blk_frozen hq4 1
       have f2 := blk_frozen hq4 2
       have f3 := blk_frozen hq4 3
       simp at q0 q1 q2 q3
       have HQ4 := hide hq4
       clear herr her hb4 hB4 hq4
       go_wp2_with fail
       refine bodyPost_ret (v := .tuple #[.agg #[.slice none 0 0,.slice none 0 0,.slice none 0 0,.slice none 0 0],.int .i64 (er:Nat)]) ?_ rfl HE.out
       have rb := blk_alloc (put4_blk HQ4.out (.slice none 0 0) (.slice none 0 0) (.slice none 0 0) (.slice none 0 0)) (.cells #[.slice none 0 0] 204)
       have r0 := blk_cell rb 0
       have r1 := blk_cell rb 1
       have r2 := blk_cell rb 2
       have r3 := blk_cell rb 3
       simp [put4] at r0 r1 r2 r3
       simp [results,Tryz.results110,go_sem,r0,r1,r2,r3]
     · obtain ⟨wva,wvn,wvc,rfl⟩ := hprog4.slice
       have hP4:ProgW w4 w4.heap.size cols (Pl.cond s.whr) (.slice wva wvn wvc) := hprog4.prog (fun k hk=>hk.2)
       have hb5:Below w4.heap.size w4 (w4.alloc (.cells #[.slice wva wvn wvc] 204)) := (Below.refl _ _).alloc (Nat.le_refl _) _
       have hx5 := blk_new w4 (.cells #[.slice wva wvn wvc] 204)
       have HX5 := hide hx5
       have HP4 := hide hP4
       have HTc := hide htc
       have HB4 := hide hB4
       have HQ4 := hide hq4
       generalize hW5:w4.alloc (.cells #[.slice wva wvn wvc] 204) = w5 at *
       have hB5:Below w.heap.size w w5 := HB4.out.trans (hb5.mono HB4.out.size)
       have hS5 := HS.out.below hB5
       have HOv := hide (orderValuesM ks o w5 hS5.keys (by have h1 := hS5.ok.klen; have h2 := congrArg List.length hS5.keysE; simp at h2; omega))
       have d4 := blk_cell (HS.out.below HB4.out).blk 4
       simp at d4
       have hn4 := lt_of_blk (HS.out.below HB4.out).blk
       obtain ⟨oa,oc,rfl⟩ := hS5.keys.1.slice
       have Hb5 := hide hb5
       subst hW5
       clear hb4 hB4 hq4 hprog4 hP4 htc hb5 hx5 hB5 hS5
       go_wp2_with fail
       refine (unhide HOv).mono ?_
       rintro e w6 ⟨hb6,ov0,os0,rfl,hos0,htr6⟩
       have hz5:w4.heap.size < w6.heap.size := by have := hb6.size; simp at this; omega
       have hB6:Below w.heap.size w w6 := (HB4.out.trans (Hb5.out.mono HB4.out.size)).trans (hb6.mono (by have := HB4.out.size; simp; omega))
       have hb46:Below w4.heap.size w4 w6 := Hb5.out.trans (hb6.mono Hb5.out.size)
       have hq6 := below_blk hb46 hz4 HQ4.out
       have hx6 := below_blk hb6 (by simp) HX5.out
       have HB6 := hide hB6
       have HQ6 := hide hq6
       have HX6 := hide hx6
       have hz6 := lt_of_blk hq6
       have hS6 := HS.out.below hB6
       obtain ⟨o0a,o0c,rfl⟩ := htr6.1.slice
       have hok6:∀ p ∈ os0,Pl.okT p.1 := fun p hp=>by
         have hm:p.1 ∈ ks.map (·.1) := by rw [<- hos0]; exact List.mem_map_of_mem hp
         rw [HS.out.keysE] at hm
         obtain ⟨i,hi,h1⟩ := List.mem_map.1 hm
         rw [<- h1]; exact HS.out.ok.keys i hi
       have hl6:os0.length <= 1000 := by
         have h1 := HS.out.ok.klen
         have h2 := congrArg List.length HS.out.keysE
         have h3 := congrArg List.length hos0
         simp at h2 h3
         omega
       have hB16:Below w1.heap.size w1 w6 := ((Hb2.out.trans (Hb3.out.mono Hb2.out.size)).trans (Hb4.out.mono (by have := Hb2.out.size; have := Hb3.out.size; omega))).trans (hb46.mono (by have := Hb2.out.size; have := Hb3.out.size; have := Hb4.out.size; omega))
       have hB36:Below w3.heap.size w3 w6 := Hb4.out.trans (hb46.mono Hb4.out.size)
       have HCa := hide (compileAllM cols os0 _ (.slice cva cvm cvc) w6 hS6.srcs.rules hS6.srcs.glob htr6 hok6 (HCols.out.below hB16) (by omega) hl6)
       have HOs0 := hide hos0
       have HOk6 := hide hok6
       have Hb16 := hide hB16
       have Hb36 := hide hB36
       have Hb46 := hide hb46
       clear HOv hb6 hB6 hq6 hx6 hS6 hos0 htr6 hok6 hB16 hB36 hb46
       go_wp2_with fail
       refine (unhide HCa).mono ?_
       rintro e w7 ⟨hb7,hpost⟩
       have hB7:Below w.heap.size w w7 := HB6.out.trans (hb7.mono HB6.out.size)
       have hq7 := below_blk hb7 hz6 HQ6.out
       have hx7 := below_blk hb7 hz5 HX6.out
       have HQ7 := hide hq7
       have hz7 := lt_of_blk hq7
       have hz47 := lt_of_blk hx7
       have x7 := blk_cell hx7 0
       simp at x7
       have q0 := blk_cell hq7 0
       have q1 := blk_cell hq7 1
       have q2 := blk_cell hq7 2
       have q3 := blk_cell hq7 3
       have f0 := blk_frozen hq7 0
       have f1 := blk_frozen hq7 1
       have f2 := blk_frozen hq7 2
       have f3 := blk_frozen hq7 3
       simp at q0 q1 q2 q3
       clear HCa
       rcases hpost with ⟨er,herr,rfl⟩ | ⟨hno,os1,ov1,hos1,rfl,hprg7⟩
       · have her := tcAll_err herr
         have hne:((er:Int) != 0) = true := by simp; omega
         have HE := hide (q_err (lay := lay) hB7 (Pl.choose_5 HOk.out HOns.out (by rw [HCs.out,<- HVs0.out]; exact HNo.out) (by rw [HCs.out]; exact HTc.out) (by rw [HCs.out,<- HS.out.keysE,<- HOs0.out]; exact herr)) her)
         clear herr her hb7 hB7 hq7 hx7
         go_wp2_with fail
         refine bodyPost_ret (v := .tuple #[.agg #[.slice none 0 0,.slice none 0 0,.slice none 0 0,.slice none 0 0],.int .i64 (er:Nat)]) ?_ rfl HE.out
         have rb := put4_blk HQ7.out (.slice none 0 0) (.slice none 0 0) (.slice none 0 0) (.slice none 0 0)
         have r0 := blk_cell rb 0
         have r1 := blk_cell rb 1
         have r2 := blk_cell rb 2
         have r3 := blk_cell rb 3
         simp [put4] at r0 r1 r2 r3
         simp [results,Tryz.results110,go_sem,r0,r1,r2,r3]
       · obtain ⟨o1a,o1c,hov1⟩ := hprg7.1.slice
         have hfv:∀ p ∈ vs1,Pl.Fine cols p.1 := fun p hp=>by
           have hm:p.1 ∈ vs0.map (·.1) := by rw [<- HVs1.out]; exact List.mem_map_of_mem hp
           obtain ⟨x,hx,h1⟩ := List.mem_map.1 hm
           exact ⟨by rw [<- h1]; exact HOk0.out x hx,Pl.tcAll_ok HNo.out _ hm⟩
         have hfo:∀ p ∈ os1,Pl.Fine cols p.1 := fun p hp=>by
           have hm:p.1 ∈ os0.map (·.1) := by rw [<- hos1]; exact List.mem_map_of_mem hp
           obtain ⟨x,hx,h1⟩ := List.mem_map.1 hm
           exact ⟨by rw [<- h1]; exact HOk6.out x hx,Pl.tcAll_ok hno _ hm⟩
         have hfw:Pl.Fine cols (Pl.cond s.whr) := by
           obtain ⟨ty,h1,_⟩ := Pl.tcAs_ok HTc.out
           exact ⟨Pl.cond_ok HS.out.ok.whr,ty,h1⟩
         have hB17 := Hb16.out.trans (hb7.mono Hb16.out.size)
         have hQ7:QueryW w7 D lay s is ps vs1 os1 (.slice sva ps.length svc) (.slice v1a vs1.length v1c) (.slice wva wvn wvc) ov1 := by
           refine ⟨HIs.out,HOns.out,HSL.out,HSrcs.out.below hB17,fun x hx=>(HSrcP.out x hx).below hB17,?_,?_,?_,?_,?_,?_,?_,?_⟩
           · rw [HCs.out]; exact (HPr3.out.below Hb36.out).below hb7
           · rw [HCs.out,HVs1.out,HVs0.out]
           · rw [HCs.out]; exact hfv
           · rw [HCs.out]; exact (HP4.out.below Hb46.out).below hb7
           · rw [HCs.out]; exact hfw
           · rw [HCs.out]; exact hprg7
           · rw [hos1,HOs0.out,HS.out.keysE]
           · rw [HCs.out]; exact hfo
         have HE:Hid (PostQ w D lay s (.returned (.tuple #[.agg #[.slice sva ps.length svc,.slice v1a vs1.length v1c,.slice wva wvn wvc,ov1],.int .i64 0])) (put4 w7 w.heap.size (.slice sva ps.length svc) (.slice v1a vs1.length v1c) (.slice wva wvn wvc) ov1)) :=
           ⟨put4_below hB7 _ _ _ _,.inr ⟨is,ps,vs1,os1,_,_,_,_,Pl.choose_6 HOk.out HOns.out (by rw [HCs.out,<- HVs0.out]; exact HNo.out) (by rw [HCs.out]; exact HTc.out) (by rw [HCs.out,<- HS.out.keysE,<- HOs0.out]; exact hno),rfl,hQ7.apart q0 (put4_size _ _ _ _ _ _) (put4_ne _ _ _ _)⟩⟩
         rw [hov1] at HE
         rw [hov1]
         clear hno hos1 hprg7 hfv hfo hfw hB17 hQ7 hb7 hB7 hq7 hx7 hov1
         go_wp2_with fail
         refine bodyPost_ret (v := .tuple #[.agg #[.slice sva ps.length svc,.slice v1a vs1.length v1c,.slice wva wvn wvc,.slice o1a os1.length o1c],.int .i64 0]) ?_ rfl HE.out
         have rb := put4_blk HQ7.out (.slice sva ps.length svc) (.slice v1a vs1.length v1c) (.slice wva wvn wvc) (.slice o1a os1.length o1c)
         have r0 := blk_cell rb 0
         have r1 := blk_cell rb 1
         have r2 := blk_cell rb 2
         have r3 := blk_cell rb 3
         simp [put4] at r0 r1 r2 r3
         simp [results,Tryz.results110,go_sem,r0,r1,r2,r3]
end Go.Proofs.YtojdpjpldokjmaaGreatDoor
