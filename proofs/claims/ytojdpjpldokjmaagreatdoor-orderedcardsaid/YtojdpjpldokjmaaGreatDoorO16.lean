/- The code's INSERT: the walk. -/
import Derived.Test.YtojdpjpldokjmaaGreatDoorO15
set_option maxHeartbeats 60000000
set_option maxRecDepth 100000
namespace Go.Proofs.YtojdpjpldokjmaaGreatDoor
open Go.RowKit Go.Deep
set_option linter.unusedSimpArgs false
set_option linter.unusedVariables false
structure ExIn (w:World) (M:Nat -> Prop) (b:Nat) (lay:List Lay) (D:Pl.DB):Prop where
 db:DbW w M b lay D
 rules:RulesAt w
 glob:¬ M 9 /\ 9 < w.heap.size
theorem ExIn.below {w w':World} {M:Nat -> Prop} {b:Nat} {lay:List Lay} {D:Pl.DB} (h:ExIn w M b lay D) (hb:Below w.heap.size w w'):ExIn w' M b lay D :=
 ⟨h.db.below hb,h.rules.keep (hb.block _ h.glob.2),h.glob.1,Nat.lt_of_lt_of_le h.glob.2 hb.size⟩
theorem tab_of {w:World} {M:Nat -> Prop} {b:Nat} {lay:List Lay} {D:Pl.DB} (h:DbW w M b lay D) {i:Nat} (hi:i < D.length):∃ l,lay[i]? = some l /\ D[i]? = some (Pl.tabD D i) /\ tabPtr lay (some i) = .pointer (some ⟨l.n,0,none⟩) := by
 have hl:i < lay.length := by rw [h.len]; exact hi
 refine ⟨lay[i],List.getElem?_eq_getElem hl,?_,?_⟩
 · unfold Pl.tabD
   rw [List.getD_eq_getElem?_getD,List.getElem?_eq_getElem hi]
   rfl
 · simp [tabPtr,List.getD,List.getElem?_eq_getElem hl,layPtr]
theorem doInsert_noTab {D:Pl.DB} {s:Pl.St} (h:Pl.tabAt D s.table = none):Pl.doInsert D s = (D,Pl.no 2) := by unfold Pl.doInsert; rw [h]
theorem doInsert_why {D:Pl.DB} {s:Pl.St} {i:Nat} {er:Nat} (h:Pl.tabAt D s.table = some i) (hw:rowWhy (s.items.map (·.tree)) (Pl.tabD D i).cols = some er):Pl.doInsert D s = (D,Pl.no er) := by
 unfold Pl.doInsert
 rw [h]
 unfold rowWhy at hw
 simp only [List.length_map] at hw
 simp only
 by_cases hl:s.items.length = (Pl.tabD D i).cols.length
 · rw [if_neg (fun hh=>hh hl)] at hw ⊢
   rw [hw]
 · rw [if_pos hl] at hw ⊢
   cases hw; rfl
theorem doInsert_ev {D:Pl.DB} {s:Pl.St} {i:Nat} (h:Pl.tabAt D s.table = some i) (hw:rowWhy (s.items.map (·.tree)) (Pl.tabD D i).cols = none):s.items.length = (Pl.tabD D i).cols.length /\ Pl.tcRow (s.items.map (·.tree)) ((Pl.tabD D i).cols.map (·.2)) = none /\ Pl.doInsert D s = match Pl.evAll [] [] (s.items.map (·.tree)) with
   | .error e=>(D,Pl.no e)
   | .ok row=>if (Pl.tabD D i).rows.length = 25 then (D,Pl.no 6) else (Pl.setRows D i ((Pl.tabD D i).rows ++ [row]),⟨[],1,0⟩) := by
 unfold rowWhy at hw
 simp only [List.length_map] at hw
 by_cases hl:s.items.length = (Pl.tabD D i).cols.length
 · rw [if_neg (fun hh=>hh hl)] at hw
   refine ⟨hl,hw,?_⟩
   unfold Pl.doInsert
   rw [h]
   simp only
   rw [if_neg (fun hh=>hh hl),hw]
   simp only
   cases Pl.evAll [] [] (s.items.map (·.tree)) <;> rfl
 · rw [if_pos hl] at hw; cases hw
theorem tcRow_err:∀ {ts:List Pl.T} {ws:List Int} {er:Nat},Pl.tcRow ts ws = some er -> er = 2 \/ er = 3
 | [],ws,er,h=>by cases ws <;> simp [Pl.tcRow] at h
 | t :: ts,[],er,h=>by simp [Pl.tcRow] at h
 | t :: ts,c :: ws,er,h=>by
   unfold Pl.tcRow at h
   cases ha:Pl.tcAs [] t c with
   | some e=>rw [ha] at h; cases h; exact tcAs_err ha
   | none=>rw [ha] at h; exact tcRow_err h
theorem rowWhy_err {ts:List Pl.T} {cs:List (List UInt8 × Int)} {er:Nat} (h:rowWhy ts cs = some er):er = 2 \/ er = 3 := by
 unfold rowWhy at h
 split at h
 · cases h; exact .inr rfl
 · exact tcRow_err h
theorem insertM (X:MachLib) (lo:Nat) (s:Pl.St) (hs:Pl.okSt s) (hk:s.kind = 105) (ts:List (Pl.T × Value)) (hts:ts.map (·.1) = s.items.map (·.tree)) (n:Nat) (tv:Value) (w:World) (M:Nat -> Prop) (b:Nat) (lay:List Lay) (D:Pl.DB) (h:ExIn w M b lay D) (hlo:lo <= w.heap.size)
   (hn:w.heap[n]? = some (.cells #[.string ⟨s.table.toArray⟩,tv] 194)) (ht:TreesW w w.heap.size ts tv) :
   Calls Tryz.prog 66 #[.pointer (some ⟨b,0,none⟩),.pointer (some ⟨n,0,none⟩)] w (PostCh lo w M b (Pl.doInsert D s)) := by
 have HS := hide hs
 have hnz := lt_of_blk hn
 have n0 := blk_cell hn 0
 have n1 := blk_cell hn 1
 simp at n0 n1
 have HF := hide (findM s.table w M b lay D h.db)
 have HN := hide hn
 have HT := hide ht
 have HX := hide h
 have HTs := hide hts
 have hlen:ts.length <= 1000 := by have := congrArg List.length hts; simp at this; have := hs.len; omega
 have HOk:Hid (∀ p ∈ ts,Pl.okT p.1) := fun p hp=>by
   have:p.1 ∈ s.items.map (·.tree) := by rw [<- hts]; exact List.mem_map_of_mem hp
   obtain ⟨it,h1,h2⟩ := List.mem_map.1 this
   rw [<- h2]; exact hs.items (by omega) it h1
 generalize hD2:Pl.doInsert D s = out
 have HD2 := hide hD2
 have HNo:Hid (∀ er w',out = (D,Pl.no er) -> Below w.heap.size w w' -> PostCh lo w M b out (.returned (.tuple #[.int .i64 0,.int .i64 (er:Nat)])) w') := fun er w' ho hb=>by
   rw [ho]; exact ⟨rfl,M,lay,DbStep.below h.db hb⟩
 have HYes:Hid (∀ w' M' lay' D' (c:Int),out = (D',⟨[],c,0⟩) -> DbStep lo w M b D' w' M' lay' -> PostCh lo w M b out (.returned (.tuple #[.int .i64 c,.int .i64 0])) w') := fun w' M' lay' D' c ho hst=>by
   rw [ho]; exact ⟨rfl,M',lay',hst⟩
 generalize PostCh lo w M b out = Post at *
 clear hs hn ht h hts hD2
 cases hta:Pl.tabAt D s.table with
 | none =>
   rw [hta] at HF
   have HE := hide (HNo.out 2 w (by rw [<- HD2.out]; exact doInsert_noTab hta) (Below.refl _ _))
   simp only [tabPtr] at HF
   go_enter Tryz.func66,Tryz.ntmps66
   go_wp2_with fail
   refine (unhide HF).mono ?_
   rintro e w1 ⟨rfl,rfl⟩
   go_wp2_with fail
   exact HE.out
 | some i =>
   obtain ⟨l,hl,htD,hptr⟩ := tab_of HX.out.db (Pl.tabAt_lt hta)
   rw [hta,hptr] at HF
   have HL := hide hl
   have HTD := hide htD
   have hT := HX.out.db.tabs i l _ hl htD
   have hokT := HX.out.db.ok.2 _ (Pl.tabD_mem (Pl.tabAt_lt hta))
   have HTA := hide hta
   obtain ⟨cv,hlb,hcv,_⟩ := hT.blk
   have l1 := blk_cell hlb 1
   have l2 := blk_cell hlb 2
   simp at l1 l2
   have hlz := lt_of_blk hlb
   have hcl := hokT.ncols
   have HC := hide (compileRowM (Pl.tabD D i).cols ts l.n tv cv w HX.out.rules HX.out.glob.2 hlz l1 (tcsC_rows hcv) (by omega) HT.out HOk.out hlen)
   rw [HTs.out] at HC
   have HTb := hide hT
   have HLb := hide hlb
   clear hl htD hptr hT hta hlb hcv
   go_enter Tryz.func66,Tryz.ntmps66
   go_wp2_with fail
   refine (unhide HF).mono ?_
   rintro e w1 ⟨rfl,rfl⟩
   go_wp2_with fail
   refine (unhide HC).mono ?_
   rintro e w2 ⟨hb2,hp2⟩
   have HB2 := hide hb2
   rcases hp2 with ⟨er,hwhy,rfl⟩ | ⟨hwhy,ps,pv,hps,rfl,hprg⟩
   · have her:((er:Int) != 0) = true := by have := rowWhy_err hwhy; simp; omega
     have HE := hide (HNo.out er w2 (by rw [<- HD2.out]; exact doInsert_why HTA.out hwhy) HB2.out)
     clear hwhy hb2
     go_wp2_with fail
     exact HE.out
   · obtain ⟨e1,e2,e3⟩ := doInsert_ev HTA.out hwhy
     have hfine:∀ p ∈ ps,Pl.Fine [] p.1 := fun p hp=>by
       have hm:p.1 ∈ s.items.map (·.tree) := by rw [<- hps]; exact List.mem_map_of_mem hp
       refine ⟨?_,tcRow_fine (by simpa using e1) e2 _ hm⟩
       obtain ⟨it,h1,h2⟩ := List.mem_map.1 hm
       rw [<- h2]; exact HS.out.items (by omega) it h1
     have hrl:RowsW w2 w2.heap.size 3 vC ([]:List Pl.V) (.slice none 0 0) := ⟨none,0,rfl,fun h=>absurd rfl h⟩
     have HR := hide (reckonAllM X [] [] ps pv (.slice none 0 0) w2 hprg hrl hfine ⟨fun v hv=>(by cases hv),by simp⟩ (by have := congrArg List.length hps; simp at this; have := HS.out.len; omega))
     rw [hps] at HR
     have HE3 := hide e3
     have hz2 := hb2.size
     clear hwhy hb2 e1 e2 e3 hfine hrl hprg
     go_wp2_with fail
     refine (unhide HR).mono ?_
     rintro e w3 ⟨hb3,hp3⟩
     have HB3 := hide (HB2.out.trans (hb3.mono hz2))
     have hz3 := hb3.size
     rcases hp3 with ⟨er,hev,rfl⟩ | ⟨row,u,hev,rfl,hu⟩
     · have her:((er:Int) != 0) = true := by have := evAll_err hev; simp; omega
       have HE := hide (HNo.out er w3 (by rw [<- HD2.out,HE3.out,hev]) HB3.out)
       clear hev hb3
       go_wp2_with fail
       exact HE.out
     · obtain ⟨ra,rc,hrv,hcap⟩ := own_cap HTb.out.rows
       have hlb3 := below_blk HB3.out hlz HLb.out
       have m2 := blk_cell hlb3 2
       simp at m2
       rw [hrv] at m2
       have hlz3 := lt_of_blk hlb3
       by_cases h25:(Pl.tabD D i).rows.length = 25
       · have HE := hide (HNo.out 6 w3 (by rw [<- HD2.out,HE3.out,hev]; simp only; rw [if_pos h25]) HB3.out)
         have g25:((((Pl.tabD D i).rows.length:Nat):Int) == 25) = true := by simp; omega
         clear hev hb3 h25
         go_wp2_with fail
         exact HE.out
       · have g25:((((Pl.tabD D i).rows.length:Nat):Int) == 25) = false := by simp; omega
         have hr25 := hokT.nrows
         obtain ⟨ua,un,uc,rfl⟩ := own_slice hu
         have hown3 := own_below HB3.out HTb.out.rows
         rw [hrv] at hown3
         obtain ⟨i0,hi,hz0,hz1,hz2'⟩ := info_parts Tryz.infoRow
         have HOkD:Hid (Pl.okDB (Pl.setRows D i ((Pl.tabD D i).rows ++ [row]))) := by
           unfold Hid
           have := Pl.doSt_ok HS.out HX.out.db.ok
           unfold Pl.doSt at this
           rw [if_neg (by omega),if_pos hk,HD2.out,<- HD2.out,HE3.out,hev] at this
           simp only at this
           rw [if_neg h25] at this
           exact this
         have HOut:Hid (out = (Pl.setRows D i ((Pl.tabD D i).rows ++ [row]),⟨[],1,0⟩)) := by
           unfold Hid; rw [<- HD2.out,HE3.out,hev]; simp only; rw [if_neg h25]
         have HU := hide (own_base hu hz2)
         clear hev hb3 h25 hu
         go_wp2_with (at_builtin; refine wpList_append_own_at _ rfl (.tmp 48) (.tmp 50) 29 rfl 0 32 i0 _ 1 24 Tryz.underlying29 hi hz0 hz1 hz2' rfl (by decide) _ _ _ rfl (hown3.alloc _) ⟨w3.heap.size,0,none⟩ 1 1 [.slice ua un uc] rfl rfl ?c1 ?c2 ?c3 ?c4 ?c5 ?_)
         case c1=>exact news_at w3 [.slice ua un uc] 32
         case c2=>intro x hx; simp at hx; subst hx; rfl
         case c3=>unfold maxLen; omega
         case c4=>omega
         case c5=>simp
         intro v' w4 hown4 hg4 hnil ho4
         rw [<- hrv] at hg4 ho4
         obtain ⟨⟨cv4,hlb4⟩,hst⟩ := tab_push HX.out.db HL.out HTD.out (w3 := w3.alloc (.cells #[.slice ua un uc] 32)) (HB3.out.alloc (by omega) _) (HU.out.alloc _) hown4 hg4 (by simpa using ho4) HOkD.out
         have HSt := hide hst
         have q2 := blk_cell hlb4 2
         have qf := blk_frozen hlb4 2
         simp at q2
         rw [hrv] at q2
         have hlz4 := lt_of_blk hlb4
         obtain ⟨xa,xn,xc,rfl⟩ := own_slice hown4
         clear hown3 hown4 hg4 hnil ho4 hst hlb4 hlb3
         go_wp2_with fail
         exact HYes.out _ _ _ _ 1 HOut.out (HSt.out.low hlo)
theorem DbW.own_box {w:World} {M:Nat -> Prop} {b:Nat} {lay:List Lay} {D:Pl.DB} (h:DbW w M b lay D) {tv:Value} (hb:w.heap[b]? = some (.cells #[tv] 77)):w.ownsRow 0 87 1 tv D.length (lay.map layPtr) /\ ∀ k,tv.ownBlock = some k -> M k := by
 obtain ⟨tv',h1,h2,h3⟩ := h.box
 rw [hb] at h1
 injection h1 with h1
 injection h1 with h1 _ _
 have:tv = tv' := by simpa using h1
 subst this
 exact ⟨h2,h3⟩
theorem db_push {lo:Nat} {w w3 w4:World} {M:Nat -> Prop} {b:Nat} {lay:List Lay} {D:Pl.DB} (h:DbW w M b lay D) {name:List UInt8} {cols:List (List UInt8 × Int)} {nb base:Nat} {tv cv v':Value} (hb:Below w.heap.size w w3) (hnb:w3.heap[nb]? = some (.cells #[.string ⟨name.toArray⟩,cv,.slice none 0 0] 94)) (hnew:w.heap.size <= nb)
   (hcv:w.ownsRow base 97 2 cv cols.length (tcsC cols)) (hcl:∀ k,cv.ownBlock = some k -> lo <= k) (hlo:lo <= w.heap.size) (hbx:w.heap[b]? = some (.cells #[tv] 77))
   (hown:w4.ownsRow 0 87 1 v' (D.length + 1) (lay.map layPtr ++ [.pointer (some ⟨nb,0,none⟩)])) (hg:w3.grownBy w4 tv.ownBlock) (ho:∀ k,v'.ownBlock = some k -> tv.ownBlock = some k \/ w3.heap.size <= k) (hok:Pl.okDB (D ++ [⟨name,cols,[]⟩])) :
   w4.heap[b]? = some (.cells #[tv] 77) /\ DbStep lo w M b (D ++ [⟨name,cols,[]⟩]) (w4.setCell ⟨b,0,none⟩ v') (fun k=>grown M w w4 k \/ cv.ownBlock = some k) (lay ++ [⟨nb,.slice none 0 0,[]⟩]) := by
 obtain ⟨ho1,ho2⟩ := h.own_box hbx
 have hz3 := hb.size
 have hz4 := hg.size
 have hbz := lt_of_blk hbx
 have hnbz := lt_of_blk hnb
 have hk4:∀ k,k < w.heap.size -> tv.ownBlock ≠ some k -> w4.heap[k]? = w.heap[k]? := fun k hk hne=>by
   rw [hg.block k (by omega) (fun e=>hne e.symm),hb.block k hk]
 have htb:tv.ownBlock ≠ some b := fun e=>by
   obtain ⟨C,m,hc⟩ := own_ty ho1 e
   exact ty_ne hc hbx (by decide) rfl
 have hb4:w4.heap[b]? = some (.cells #[tv] 77) := (hk4 b hbz htb).trans hbx
 refine ⟨hb4,?_⟩
 have hkeep:∀ k,k < w.heap.size -> k ≠ b -> tv.ownBlock ≠ some k -> (w4.setCell ⟨b,0,none⟩ v').heap[k]? = w.heap[k]? := fun k hk hne hne2=>by
   rw [Below.heap_setCell _ _ _ _ hne]; exact hk4 k hk hne2
 have hne:∀ {e:TypeId} {k:Nat} {C:Array Value} {m:Nat × Nat},w.heap[k]? = some (.cells C e m) -> e ≠ 77 -> e ≠ 87 -> k ≠ b /\ tv.ownBlock ≠ some k := by
   intro e k C m hk h1 h2
   refine ⟨ty_ne hk hbx h1,fun e' => ?_⟩
   obtain ⟨C',m',h'⟩ := own_ty ho1 e'
   exact ty_ne hk h' h2 rfl
 have hkO:∀ {base:Nat} {e:TypeId} {size n:Nat} {v:Value} {xs:List Value},w.ownsRow base e size v n xs -> e ≠ 77 -> e ≠ 87 -> ∀ k,v.ownBlock = some k -> (w4.setCell ⟨b,0,none⟩ v').heap[k]? = w.heap[k]? := by
   intro base e size n v xs hov h1 h2 k hk
   obtain ⟨C,m,hc⟩ := own_ty hov hk
   obtain ⟨a1,a2⟩ := hne hc h1 h2
   exact hkeep k (hov.lt k hk).2 a1 a2
 have hM:∀ k,M k -> (fun k=>grown M w w4 k \/ cv.ownBlock = some k) k := fun k hk=>.inl (.inl hk)
 have hnb4:(w4.setCell ⟨b,0,none⟩ v').heap[nb]? = some (.cells #[.string ⟨name.toArray⟩,cv,.slice none 0 0] 94) := by
   rw [Below.heap_setCell _ _ _ _ (show nb ≠ b by omega),hg.block nb hnbz (fun e=>by have := (ho1.lt nb e.symm).2; omega)]
   exact hnb
 have hv4:∀ k,v'.ownBlock = some k -> k ≠ b := fun k hk e=>by
   subst e
   rcases ho _ hk with h0 | h0
   · exact htb h0
   · omega
 refine ⟨⟨fun k hk=>?_,hM _ h.own,⟨v',?_,?_,fun k hk=>?_⟩,?_,?_,?_,hok⟩,hM,fun k hk=>?_,?_⟩
 · rw [size_set]
   rcases hk with (hk | hk) | hk
   · have := h.lt k hk; omega
   · exact hk.2
   · have := (hcv.lt k hk).2; omega
 · have := blk_set hb4 0 v'
   simpa using this
 · simp only [List.length_append,List.length_singleton,List.map_append]
   exact own_at hown (fun k hk=>Below.heap_setCell _ _ _ _ (hv4 k hk))
 · rcases ho k hk with h0 | h0
   · exact hM k (ho2 k h0)
   · exact .inl (.inr ⟨by omega,(hown.lt k hk).2⟩)
 · simp [h.len]
 · intro i l t hl ht
   by_cases hi:i < lay.length
   · rw [List.getElem?_append_left hi] at hl
     rw [List.getElem?_append_left (by rw [<- h.len]; exact hi)] at ht
     obtain ⟨g1,⟨cw,g2,g3,g4⟩,g5,g6,g7,g8⟩ := h.tabs i l t hl ht
     obtain ⟨a1,a2⟩ := hne g2 (by decide) (by decide)
     exact ⟨hM _ g1,⟨cw,(hkeep _ (h.lt _ g1) a1 a2).trans g2,own_at g3 (hkO g3 (by decide) (by decide)),fun k hk=>hM k (g4 k hk)⟩,own_at g5 (hkO g5 (by decide) (by decide)),fun k hk=>hM k (g6 k hk),g7,fun x r u hr hu=>(g8 x r u hr hu).keep hM (hkO (g8 x r u hr hu).1 (by decide) (by decide))⟩
   · have hi1 := getElem?_lt hl
     simp at hi1
     have hi2:i = lay.length := by omega
     subst hi2
     simp at hl
     rw [h.len] at ht
     simp at ht
     subst hl; subst ht
     refine ⟨.inl (.inr ⟨hnew,by show nb < _; omega⟩),⟨cv,hnb4,own_at (own_base hcv (Nat.zero_le _)) (hkO hcv (by decide) (by decide)),fun k hk=>.inr hk⟩,World.ownsRow_nil _ _ _ _,fun k hk=>(by cases hk),fun _=>rfl,fun x r u hr hu=>(by simp at hr)⟩
 · intro i j l m hij hl hm
   have hlow:∀ (x:Nat) (lx:Lay),lay[x]? = some lx -> lx.n < w.heap.size /\ ∀ k,lx.rv.ownBlock = some k -> k < w.heap.size := fun x lx hx=>by
     have hx':x < D.length := by rw [<- h.len]; exact getElem?_lt hx
     have := h.tabs x lx _ hx (List.getElem?_eq_getElem hx')
     exact ⟨h.lt _ this.own,fun k hk=>h.lt k (this.rowsM k hk)⟩
   by_cases hi:i < lay.length
   · rw [List.getElem?_append_left hi] at hl
     by_cases hj:j < lay.length
     · rw [List.getElem?_append_left hj] at hm
       exact h.apart i j l m hij hl hm
     · have hj1 := getElem?_lt hm
       simp at hj1
       have hj2:j = lay.length := by omega
       subst hj2
       simp at hm; subst hm
       exact ⟨by have := (hlow i l hl).1; show l.n ≠ nb; omega,fun k _=>by simp [Value.ownBlock]⟩
   · have hi1 := getElem?_lt hl
     simp at hi1
     have hi2:i = lay.length := by omega
     subst hi2
     simp at hl; subst hl
     have hj:j < lay.length := by have := getElem?_lt hm; simp at this; omega
     rw [List.getElem?_append_left hj] at hm
     exact ⟨by have := (hlow j m hm).1; show nb ≠ m.n; omega,fun k hk=>by simp [Value.ownBlock] at hk⟩
 · rcases hk with (hk | hk) | hk
   · exact .inl hk
   · exact .inr (by omega)
   · exact .inr (hcl k hk)
 · exact ⟨hg.os.trans hb.os,hg.tape.trans hb.tape,hg.output.trans hb.output,by rw [size_set]; omega,fun k hk=>hkeep k hk.1 (fun e=>hk.2 (e ▸ h.own)) (fun e=>hk.2 (ho2 k e))⟩
theorem Tryz.infoTab:(Tryz.prog.info? 87).map (fun i=>(i.zero,i.size,i.bytes)) = some (some (.pointer none),1,8) := by kernel_rfl
def PostCr (lo:Nat) (w:World) (M:Nat -> Prop) (b:Nat) (o:Pl.DB × Pl.Ans) (e:Ending) (w':World):Prop :=
 e = .returned (.int .i64 (o.2.err:Nat)) /\ ∃ M' lay',DbStep lo w M b o.1 w' M' lay'
def colsOf (s:Pl.St):List (List UInt8 × Int) := s.items.map (fun i=>(i.name,i.type))
theorem createM (lo:Nat) (s:Pl.St) (hs:Pl.okSt s) (hk:s.kind = 99) (n base:Nat) (cv:Value) (w:World) (M:Nat -> Prop) (b:Nat) (lay:List Lay) (D:Pl.DB) (h:DbW w M b lay D) (hlo:lo <= w.heap.size)
   (hn:w.heap[n]? = some (.cells #[.string ⟨s.table.toArray⟩,cv] 190)) (hcv:w.ownsRow base 97 2 cv (colsOf s).length (tcsC (colsOf s))) (hcl:∀ k,cv.ownBlock = some k -> lo <= k) :
   Calls Tryz.prog 65 #[.pointer (some ⟨b,0,none⟩),.pointer (some ⟨n,0,none⟩)] w (PostCr lo w M b (Pl.doCreate D s)) := by
 have HS := hide hs
 have hnz := lt_of_blk hn
 have n0 := blk_cell hn 0
 have n1 := blk_cell hn 1
 simp at n0 n1
 have hl5:(colsOf s).length <= 5 := by simp [colsOf]; exact (hs.create hk).1
 have HF := hide (findM s.table w M b lay D h)
 have HTw := hide (nameTwiceM (colsOf s) cv base w hcv (by omega))
 have HN := hide hn
 have HX := hide h
 have HCv := hide hcv
 have HCl := hide hcl
 obtain ⟨ca,cc,rfl,hcap⟩ := own_cap hcv
 have hnm:nmsOf (colsOf s) = s.items.map (·.name) := by simp [nmsOf,colsOf]
 rw [hnm] at HTw
 generalize hD2:Pl.doCreate D s = out
 have HD2 := hide hD2
 have HNo:Hid (∀ er w',out = (D,Pl.no er) -> Below w.heap.size w w' -> PostCr lo w M b out (.returned (.int .i64 (er:Nat))) w') := fun er w' ho hb=>by
   rw [ho]; exact ⟨rfl,M,lay,DbStep.below h hb⟩
 have HYes:Hid (∀ w' M' lay' D',out = (D',Pl.no 0) -> DbStep lo w M b D' w' M' lay' -> PostCr lo w M b out (.returned (.int .i64 0)) w') := fun w' M' lay' D' ho hst=>by
   rw [ho]; exact ⟨rfl,M',lay',hst⟩
 generalize PostCr lo w M b out = Post at *
 obtain ⟨ta,tc,hbx,_⟩ := h.slice
 have hbz := lt_of_blk hbx
 have HBx := hide hbx
 clear hs hn h hcv hcl hD2 hbx
 cases hta:Pl.tabAt D s.table with
 | some i =>
   have HE := hide (HNo.out 2 w (by rw [<- HD2.out]; unfold Pl.doCreate; rw [hta]; simp) (Below.refl _ _))
   obtain ⟨l,_,_,hptr⟩ := tab_of HX.out (Pl.tabAt_lt hta)
   rw [hta,hptr] at HF
   clear hta hptr
   go_enter Tryz.func65,Tryz.ntmps65
   go_wp2_with fail
   refine (unhide HF).mono ?_
   rintro e w1 ⟨rfl,rfl⟩
   go_wp2_with fail
   exact HE.out
 | none =>
   rw [hta] at HF
   simp only [tabPtr] at HF
   cases hdup:Pl.dup (s.items.map (·.name)) with
   | true =>
     have HE := hide (fun w' => HNo.out 2 w' (by rw [<- HD2.out]; unfold Pl.doCreate; rw [hta,hdup]; simp))
     rw [hdup] at HTw
     clear hta hdup
     go_enter Tryz.func65,Tryz.ntmps65
     go_wp2_with fail
     refine (unhide HF).mono ?_
     rintro e w1 ⟨rfl,rfl⟩
     go_wp2_with fail
     refine (unhide HTw).mono ?_
     rintro e w2 ⟨rfl,hb2⟩
     have HB2 := hide hb2
     clear hb2
     go_wp2_with fail
     exact HE.out _ HB2.out
   | false =>
     rw [hdup] at HTw
     by_cases h6:D.length = 6
     · have HE := hide (fun w' => HNo.out 6 w' (by rw [<- HD2.out]; unfold Pl.doCreate; rw [hta,hdup,if_neg (by simp),if_pos h6]))
       have g6:(((List.length D:Nat):Int) == 6) = true := by simp; omega
       clear hta hdup
       go_enter Tryz.func65,Tryz.ntmps65
       go_wp2_with fail
       refine (unhide HF).mono ?_
       rintro e w1 ⟨rfl,rfl⟩
       go_wp2_with fail
       refine (unhide HTw).mono ?_
       rintro e w2 ⟨rfl,hb2⟩
       have HB2 := hide hb2
       have hbx2 := below_blk hb2 hbz HBx.out
       have c2 := blk_cell hbx2 0
       simp at c2
       have hbz2 := lt_of_blk hbx2
       clear hb2 hbx2
       go_wp2_with fail
       exact HE.out _ HB2.out
     · have g6:(((List.length D:Nat):Int) == 6) = false := by simp; omega
       have HOut:Hid (out = (D ++ [⟨s.table,colsOf s,[]⟩],Pl.no 0)) := by
         unfold Hid; rw [<- HD2.out]; unfold Pl.doCreate; rw [hta,hdup,if_neg (by simp),if_neg h6]; rfl
       have HOk:Hid (Pl.okDB (D ++ [⟨s.table,colsOf s,[]⟩])) := by
         unfold Hid
         have := Pl.doSt_ok HS.out HX.out.ok
         unfold Pl.doSt at this
         rw [if_pos hk,HD2.out,HOut.out] at this
         exact this
       have hD6 := HX.out.ok.1
       obtain ⟨i0,hi,hz0,hz1,hz2⟩ := info_parts Tryz.infoTab
       clear hta hdup h6
       go_enter Tryz.func65,Tryz.ntmps65
       go_wp2_with fail
       refine (unhide HF).mono ?_
       rintro e w1 ⟨rfl,rfl⟩
       go_wp2_with fail
       refine (unhide HTw).mono ?_
       rintro e w2 ⟨rfl,hb2⟩
       have HB2 := hide hb2
       have hbx2 := below_blk hb2 hbz HBx.out
       have c2 := blk_cell hbx2 0
       simp at c2
       have hbz2 := lt_of_blk hbx2
       have hn2 := below_blk hb2 hnz HN.out
       have d0 := blk_cell hn2 0
       have d1 := blk_cell hn2 1
       simp at d0 d1
       have hnz2 := lt_of_blk hn2
       have hz2' := hb2.size
       have H5 := hide (own_below hb2 (HX.out.own_box HBx.out).1)
       clear hb2 hbx2 hn2
       generalize hO:Obj.cells #[.string ⟨s.table.toArray⟩,.slice ca (colsOf s).length cc,.slice none 0 0] 94 = O
       generalize hO2:Obj.cells #[.pointer (some ⟨w2.heap.size,0,none⟩)] 87 = O2
       have HB3:Hid (Below w1.heap.size w1 ((w2.alloc O).alloc O2).drew) := (((HB2.out.alloc (by omega) _).alloc (by simp; omega) _).drew)
       have HNb:Hid (((w2.alloc O).alloc O2).drew.heap[w2.heap.size]? = some O) := blk_alloc (blk_new _ _) _
       have HNw:Hid (∀ j u,([.pointer (some ⟨w2.heap.size,0,none⟩)]:List Value)[j]? = some u -> ((w2.alloc O).alloc O2).drew.cell? ((⟨w2.heap.size + 1,0,none⟩:Addr).add j) = some u) := by
         subst hO2
         exact news2 w2 O [.pointer (some ⟨w2.heap.size,0,none⟩)] 87
       have HOn:Hid (∀ u ∈ ([.pointer (some ⟨w2.heap.size,0,none⟩)]:List Value),u.oneCell' = true) := by intro u hu; simp at hu; subst hu; rfl
       have HMx:Hid (D.length + 1 <= maxLen) := by unfold Hid maxLen; omega
       have HYx:Hid ((D.length + 1) * 8 <= 140737488355328) := by unfold Hid; omega
       have HZx:Hid (0 <= ((w2.alloc O).alloc O2).drew.heap.size) := Nat.zero_le _
       have HPush:Hid (∀ w4 v',w4.ownsRow 0 87 1 v' (D.length + 1) (lay.map layPtr ++ [.pointer (some ⟨w2.heap.size,0,none⟩)]) -> ((w2.alloc O).alloc O2).drew.grownBy w4 (Value.ownBlock (.slice ta D.length tc)) -> (∀ k,v'.ownBlock = some k -> Value.ownBlock (.slice ta D.length tc) = some k \/ ((w2.alloc O).alloc O2).drew.heap.size <= k) -> w4.heap[b]? = some (.cells #[.slice ta D.length tc] 77) /\ Post (.returned (.int .i64 0)) (w4.setCell ⟨b,0,none⟩ v')) := by
         intro w4 v' h1 h2 h3
         subst hO
         obtain ⟨a1,a2⟩ := db_push (lo := lo) HX.out HB3.out HNb.out hz2' HCv.out HCl.out hlo HBx.out h1 h2 h3 HOk.out
         exact ⟨a1,HYes.out _ _ _ _ HOut.out a2⟩
       clear HB3 HNb HNo HYes
       subst hO
       subst hO2
       go_wp2_with fail
       go_region_law (refine step_append_at rfl (.tmp 29) (.tmp 40) 75 rfl 0 87 i0 _ 1 8 Tryz.underlying75 hi hz0 hz1 hz2 rfl (by decide) _ _ _ (by simp [Act.eval,Act.put]) ((H5.out.alloc _).alloc _) ⟨w2.heap.size + 1,0,none⟩ 1 1 [.pointer (some ⟨w2.heap.size,0,none⟩)] (by simp [Act.eval,Act.put]) rfl HNw.out HOn.out HMx.out HYx.out HZx.out ?_; intro v' w' hown' hg' hfr'; obtain ⟨g',cap',rfl⟩ := own_succ hown'; obtain ⟨hb2,hs2⟩ := HPush.out _ _ hown' hg' hfr'; have c4 := blk_cell hb2 0; simp at c4; have f4 := blk_frozen hb2 0; have hz4 := lt_of_blk hb2; have HS2 := hide hs2; clear hs2 hb2 hown' hg' hfr')
       all_goals go_wp2_with fail
       all_goals exact HS2.out
end Go.Proofs.YtojdpjpldokjmaaGreatDoor
