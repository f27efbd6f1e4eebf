/- Rows without those met before: what the loop keeps. -/
import Derived.Test.YtojdpjpldokjmaaGreatDoorO25
import Derived.Maps.Own
import Derived.Maps.OwnOps
import Derived.Maps.Views
set_option maxHeartbeats 60000000
set_option maxRecDepth 100000
namespace Go.Proofs.YtojdpjpldokjmaaGreatDoor.Pl
theorem keyV_len {v:V} (h:okV v):(keyV v).length <= 150 := by
 have h1 := Lib.itoa_length_le v.kind (by have := h.kind; omega) (by have := h.kind; omega)
 have h2 := Lib.itoa_length_le v.n h.range.1 h.range.2
 have h4:v.s.length <= 40 := by rcases h with ⟨_,_,h⟩ | ⟨_,h,_⟩ | ⟨_,_,h⟩ | ⟨_,_,h⟩ <;> simp [h]
 have h3 := Lib.itoa_length_le ((v.s.length:Nat):Int) (by omega) (by omega)
 simp [keyV]
 omega
theorem keyR_len:∀ {row:List V},okRow row -> (keyR row).length <= row.length * 150
 | [],_=>by simp [keyR]
 | v :: row,h=>by
   have h1 := keyV_len (h v (by simp))
   have h2 := keyR_len (row := row) (fun x hx=>h x (by simp [hx]))
   unfold keyR at h2 ⊢
   rw [List.flatMap_cons,List.length_append,List.length_cons]
   omega
theorem onceGo_met {met:List (List V)} {r:List V} {rs:List (List V)} (h:r ∈ met):onceGo met (r :: rs) = onceGo met rs := by
 rw [onceGo,if_pos (List.any_eq_true.2 ⟨r,h,(rowSame_iff _ _).2 rfl⟩)]
theorem onceGo_new {met:List (List V)} {r:List V} {rs:List (List V)} (h:r ∉ met):onceGo met (r :: rs) = r :: onceGo (met ++ [r]) rs := by
 rw [onceGo,if_neg (fun e=>by
   obtain ⟨x,hx,e⟩ := List.any_eq_true.1 e
   exact h (by rw [(rowSame_iff _ _).1 e]; exact hx))]
end Go.Proofs.YtojdpjpldokjmaaGreatDoor.Pl
namespace Go.Proofs.YtojdpjpldokjmaaGreatDoor
open Go.RowKit Go.Deep Go.Maps Go.WideMaps
set_option linter.unusedSimpArgs false
set_option linter.unusedVariables false
theorem lawS:Keyed Tryz.prog 9 := string_keyed Tryz.underlying9
theorem zeroI (w:World):(zeroValue 3).run Tryz.prog w = .ok (.int .i64 0) w := by kernel_rfl
def kl (r:List Pl.V):Lit := .string (Pl.keyR r)
theorem key_ok {r:List Pl.V} (h:Pl.okRow r) (hl:r.length <= 1000):keyOf Tryz.prog 9 (.string ⟨(Pl.keyR r).toArray⟩) = some (kl r) := by
 have := keyOf_string_mk (P := Tryz.prog) Tryz.underlying9 (s := ⟨(Pl.keyR r).toArray⟩) (by have := Pl.keyR_len h; unfold maxLen; show (Pl.keyR r).toArray.size <= _; simp; omega)
 simpa [kl] using this
theorem kl_inj {a b:List Pl.V} (h:kl a = kl b):a = b := by
 unfold kl at h
 injection h with h
 exact Pl.key_inj h
theorem ownsMap_heap {w w':World} {k:TypeId} {R:Value -> Option (DataW Unit × List MemPlace)} {b n:Nat} {D:DataW Unit} (h:w.ownsMap Tryz.prog k R b n D) (hb:w'.heap[b]? = w.heap[b]?):w'.ownsMap Tryz.prog k R b n D := by
 obtain ⟨es,c,h1,h2⟩ := h
 exact ⟨es,c,hb.trans h1,h2⟩
theorem ownsMap_lt {w:World} {k:TypeId} {R:Value -> Option (DataW Unit × List MemPlace)} {b n:Nat} {D:DataW Unit} (h:w.ownsMap Tryz.prog k R b n D):b < w.heap.size := by
 obtain ⟨es,c,h1,h2⟩ := h
 exact lt_of_blk h1
structure TI (w W:World) (qs:List Pl.PRow) (i:Nat) (rs:List Pl.PRow) (v:Value) (D:DataW Unit):Prop where
 bel:Below w.heap.size w W
 map:W.ownsMap Tryz.prog 9 (plainElem (H := Unit) Tryz.prog 3) w.heap.size i D
 own:W.ownsRow (w.heap.size + 1) 32 1 v rs.length (sndC rs)
 sub:rs.Sublist (qs.take i)
 eq:Pl.once (qs.map (·.1)) = rs.map (·.1) ++ Pl.onceGo (rs.map (·.1)) ((qs.drop i).map (·.1))
 cnt:∀ q ∈ qs,∃ c:Int,D.atKey (kl q.1) (.lit (.int .i64 0)) = .lit (.int .i64 c) /\ 0 <= c /\ c <= i /\ (0 < c ↔ q.1 ∈ rs.map (·.1))
theorem TI.none (w:World) (qs:List Pl.PRow):TI w (w.alloc (.map #[] 0)) qs 0 [] (.slice none 0 0) (.map []) :=
 ⟨(Below.refl _ _).alloc (Nat.le_refl _) _,World.ownsMap_made _ _ _ _,World.ownsRow_nil _ _ _ _,by simp,by simp [Pl.once],fun q _=>⟨0,rfl,by omega,by omega,by simp⟩⟩
theorem TI.below {w W W':World} {qs rs:List Pl.PRow} {i:Nat} {v:Value} {D:DataW Unit} (h:TI w W qs i rs v D) (hb:Below W.heap.size W W'):TI w W' qs i rs v D :=
 ⟨h.bel.trans (hb.mono h.bel.size),ownsMap_heap h.map (hb.block _ (ownsMap_lt h.map)),own_below hb h.own,h.sub,h.eq,h.cnt⟩
theorem TI.counts {w W:World} {qs rs rs':List Pl.PRow} {i:Nat} {v:Value} {D:DataW Unit} (h:TI w W qs i rs v D) {q:Pl.PRow} {c:Int} (hc:D.atKey (kl q.1) (.lit (.int .i64 0)) = .lit (.int .i64 c)) (h0:0 <= c) (hi:c <= i) (hq:q.1 ∈ rs'.map (·.1)) (hr:∀ x,x ≠ q.1 -> (x ∈ rs'.map (·.1) ↔ x ∈ rs.map (·.1))) :
   ∀ p ∈ qs,∃ c':Int,(D.put (kl q.1) (.lit (.int .i64 (c + 1)))).atKey (kl p.1) (.lit (.int .i64 0)) = .lit (.int .i64 c') /\ 0 <= c' /\ c' <= ((i + 1:Nat):Int) /\ (0 < c' ↔ p.1 ∈ rs'.map (·.1)) := fun p hp=>by
 have hm:IsMap D := by obtain ⟨es,cl,_,_,_,e⟩ := h.map; exact ⟨_,e⟩
 by_cases hpq:p.1 = q.1
 · rw [hpq]
   exact ⟨c + 1,atKey_put_same hm (by unfold kl; trivial) _ _,by omega,by omega,by simp [hq]; omega⟩
 · obtain ⟨c',h1,h2,h3,h4⟩ := h.cnt p hp
   refine ⟨c',?_,h2,by omega,?_⟩
   · rw [atKey_put_other (fun e=>hpq (kl_inj e))]; exact h1
   · rw [hr _ hpq]; exact h4
theorem TI.met {w W W3:World} {qs rs:List Pl.PRow} {i:Nat} {v:Value} {D:DataW Unit} (h:TI w W qs i rs v D) {q:Pl.PRow} (hq:qs[i]? = some q) {c:Int} (hc:D.atKey (kl q.1) (.lit (.int .i64 0)) = .lit (.int .i64 c)) (h0:0 < c) (hi:c <= i)
   (hm:W3.ownsMap Tryz.prog 9 (plainElem (H := Unit) Tryz.prog 3) w.heap.size (i + 1) (D.put (kl q.1) (.lit (.int .i64 (c + 1))))) (hg:W.grownBy W3 (some w.heap.size)):TI w W3 qs (i + 1) rs v (D.put (kl q.1) (.lit (.int .i64 (c + 1)))) := by
 have hmem := List.mem_of_getElem? hq
 obtain ⟨c',e1,e2,e3,e4⟩ := h.cnt q hmem
 have hcc:c' = c := by rw [hc] at e1; injection e1 with e; injection e with _ e; exact e.symm
 subst hcc
 have hin := e4.1 h0
 obtain ⟨hl,hqi⟩ := List.getElem?_eq_some_iff.1 hq
 have hd:qs.drop i = q :: qs.drop (i + 1) := by rw [List.drop_eq_getElem_cons hl,hqi]
 refine ⟨below_grown h.bel hg (fun k hk=>by injection hk with hk; omega) h.bel.size,hm,?_,h.sub.trans (by rw [show qs.take (i + 1) = qs.take i ++ [q] by rw [<- hqi]; exact (List.take_append_getElem hl).symm]; exact List.sublist_append_left _ _),?_,h.counts hc e2 e3 hin (fun x _=>Iff.rfl)⟩
 · exact own_at h.own (fun k hk=>hg.block k (h.own.lt k hk).2 (fun e=>by injection e with e; have := (h.own.lt k hk).1; omega))
 · rw [h.eq,hd,List.map_cons,Pl.onceGo_met hin]
theorem TI.new {w W W3 W4:World} {qs rs:List Pl.PRow} {i:Nat} {v v':Value} {D:DataW Unit} (h:TI w W qs i rs v D) {q:Pl.PRow} (hq:qs[i]? = some q) (hc:D.atKey (kl q.1) (.lit (.int .i64 0)) = .lit (.int .i64 0))
   (hm:W3.ownsMap Tryz.prog 9 (plainElem (H := Unit) Tryz.prog 3) w.heap.size (i + 1) (D.put (kl q.1) (.lit (.int .i64 (0 + 1))))) (hg:W.grownBy W3 (some w.heap.size)) {W3':World} (hb:Below W3.heap.size W3 W3') (hown:W4.ownsRow (w.heap.size + 1) 32 1 v' (rs.length + 1) (sndC rs ++ [q.2])) (hg2:W3'.grownBy W4 v.ownBlock) :
   TI w W4 qs (i + 1) (rs ++ [q]) v' (D.put (kl q.1) (.lit (.int .i64 (0 + 1)))) := by
 have hmem := List.mem_of_getElem? hq
 obtain ⟨c',e1,e2,e3,e4⟩ := h.cnt q hmem
 have hcc:c' = 0 := by rw [hc] at e1; injection e1 with e; injection e with _ e; exact e.symm
 subst hcc
 have hin:q.1 ∉ rs.map (·.1) := fun e=>by have := e4.2 e; omega
 obtain ⟨hl,hqi⟩ := List.getElem?_eq_some_iff.1 hq
 have hd:qs.drop i = q :: qs.drop (i + 1) := by rw [List.drop_eq_getElem_cons hl,hqi]
 have hb3:Below w.heap.size w W3 := below_grown h.bel hg (fun k hk=>by injection hk with hk; omega) h.bel.size
 have hlm := ownsMap_lt hm
 refine ⟨below_grown (hb3.trans (hb.mono hb3.size)) hg2 (fun k hk=>by have := (h.own.lt k hk).1; omega) (Nat.le_trans hb3.size hb.size),?_,by simpa [sndC] using hown,?_,?_,h.counts hc (by omega) (by omega) (by simp) (fun x hx=>by simp [hx])⟩
 · refine ownsMap_heap hm ?_
   rw [hg2.block _ (Nat.lt_of_lt_of_le hlm hb.size) (fun e=>by have := (h.own.lt _ e.symm).1; omega)]
   exact hb.block _ hlm
 · rw [show qs.take (i + 1) = qs.take i ++ [q] by rw [<- hqi]; exact (List.take_append_getElem hl).symm]
   exact h.sub.append_right [q]
 · rw [h.eq,hd,List.map_cons,Pl.onceGo_new hin]
   simp
theorem withoutTwiceM (X:KeyLib) (qs:List Pl.PRow) (v:Value) (base:Nat) (w:World) (hp:PowAt w) (hown:w.ownsRow base 32 1 v qs.length (sndC qs)) (hnew:NewRows w base qs) (hl:qs.length <= 20000) (hok:∀ q ∈ qs,q.1.length <= 1000 /\ Pl.okRow q.1) :
   Calls Tryz.prog 114 #[v] w fun e w' => Below w.heap.size w w' /\ ∃ rs u,e = .returned u /\ rs.map (·.1) = Pl.once (qs.map (·.1)) /\ rs.Sublist qs /\ w'.ownsRow w.heap.size 32 1 u rs.length (sndC rs) := by
 have HM := hide (mat_own hown hnew.rows)
 have HOk := hide hok
 have HKey:Hid (∀ (W:World) (q:Pl.PRow),q ∈ qs -> Below w.heap.size w W -> Calls Tryz.prog 177 #[q.2] W fun e w' => e = .returned (.string ⟨(Pl.keyR q.1).toArray⟩) /\ Below W.heap.size W w') := fun W q hq hb =>
   rowKeyM X q.1 q.2 W ((hnew.rows q hq).below hb) (hok q hq).2 (hok q hq).1 (hp.keep (hb.block _ hp.lt))
 obtain ⟨i0,hi,hi0,hi1,hi2⟩ := info_parts Tryz.infoRow
 have HInf := hide (And.intro hi (And.intro hi0 (And.intro hi1 hi2)))
 have HSl:Hid (∀ q ∈ qs,∃ a n c,q.2 = .slice a n c) := fun q hq=>own_slice (hnew.1 q hq)
 have HT0 := hide (TI.none w qs)
 obtain ⟨va,vc,rfl⟩ := own_slice1 hown
 have hmm := @run_makeMap Tryz.prog
 clear hi hi0 hi1 hi2 hok hp hown hnew X
 go_enter Tryz.func114,Tryz.ntmps114
 go_wp2_with fail
 go_step3
 go_wp2_with fail
 go_step3
 go_wp2_with fail
 go_loopw [4,11] (fun s4 s11 wr=>∃ (i:Nat) (rs:List Pl.PRow) (D:DataW Unit),i <= qs.length /\ s11 = .int .i64 (i:Nat) /\ rs.length <= i /\ Hid (TI w wr qs i rs s4 D)) (fun _ a _=>qs.length - (intOf a).toNat)
 case atStart=>exact ⟨0,[],_,Nat.zero_le _,rfl,Nat.le_refl _,HT0.out⟩
 case round =>
   obtain ⟨i,rs,D,hi,rfl,hrl,HI⟩ := hrel
   obtain ⟨sa,sc,rfl⟩ := own_slice1 HI.out.own
   clear HT0
   have hbI := HI.out.bel
   by_cases hlt:i < qs.length
   · have HQ:Hid (qs[i]? = some qs[i]) := List.getElem?_eq_getElem hlt
     have HMem := hide (List.getElem_mem hlt)
     generalize qs[i] = q at *
     obtain ⟨g,cap,he,hg,d0⟩ := (HM.out.1.keep (fun k hk=>hbI.block k hk)).at1 HQ.out
     cases he
     have hgz:g < wr.heap.size := Nat.lt_of_lt_of_le hg hbI.size
     obtain ⟨qa,qn,qc,hq2⟩ := HSl.out q HMem.out
     have HC := hide (HKey.out wr q HMem.out hbI)
     rw [hq2] at HC d0
     obtain ⟨c,hc,hc0,hci,hcm⟩ := HI.out.cnt q HMem.out
     have hko := key_ok (HOk.out q HMem.out).2 (HOk.out q HMem.out).1
     have HCt := hide hc
     have HKo := hide hko
     have HQ2 := hide hq2
     generalize (⟨(Pl.keyR q.1).toArray⟩:ByteArray) = ks at *
     clear hbI hc hko hcm hq2
     go_wp2_with fail
     refine (unhide HC).mono ?_
     rintro e w2 ⟨rfl,hb2⟩
     have HI2 := hide (HI.out.below hb2)
     have hm2 := HI2.out.map
     clear hb2 HC HI
     have HPut:Hid ((D.put (kl q.1) (.lit (.int .i64 (c + 1)))).atKey (kl q.1) (.lit (.int .i64 0)) = .lit (.int .i64 (c + 1))) := by
       obtain ⟨es,cl,_,_,_,e⟩ := hm2
       exact atKey_put_same ⟨_,e⟩ (by unfold kl; trivial) _ _
     go_wp2_with (first
         | (at_lookup; refine wpList_lookup_own_int _ rfl _ _ 292 rfl 9 3 .i64 lawS Tryz.underlying292 Tryz.underlying3 (zeroI _) w.heap.size i _ rfl hm2 _ _ rfl HKo.out ?_; intro c1 hat hwc; obtain rfl:c = c1 := by (rw [HCt.out] at hat; injection hat with h; injection h with _ h))
         | (at_mapUpdate; refine wpList_mapUpdate_own _ rfl _ _ _ 292 rfl 9 3 lawS Tryz.underlying292 _ w.heap.size i _ rfl hm2 (by unfold maxLen; omega) _ _ _ rfl rfl HKo.out _ [] (plainElem_int Tryz.underlying3 (WalkArith.wf_i64 (by omega))) ?_))
     intro w3 hm3 hg3
     by_cases h0:0 < c
     · have ht:(1:Int) < c + 1 := by omega
       have HF := hide (HI2.out.met HQ.out HCt.out h0 hci hm3 hg3)
       have HM3 := hide hm3
       clear hg3 HI2 hm2
       go_wp2_with (at_lookup; refine wpList_lookup_own_int _ rfl _ _ 292 rfl 9 3 .i64 lawS Tryz.underlying292 Tryz.underlying3 (zeroI _) w.heap.size (i + 1) _ rfl hm3 _ _ rfl HKo.out ?_; intro c2 hat2 hwc2; obtain rfl:c + 1 = c2 := by (rw [HPut.out] at hat2; injection hat2 with h; injection h with _ h))
       exact ⟨⟨i + 1,rs,_,by omega,by go_num,by omega,HF.out⟩,by simp [intOf]; omega⟩
     · obtain rfl:c = 0 := by omega
       have HT3 := hide (And.intro hm3 hg3)
       have hown3:w3.ownsRow (w.heap.size + 1) 32 1 (.slice sa rs.length sc) rs.length (sndC rs) := own_at HI2.out.own (fun k hk=>hg3.block k (HI2.out.own.lt k hk).2 (fun e=>by injection e with e; have := (HI2.out.own.lt k hk).1; omega))
       have hz3:w.heap.size < w3.heap.size := ownsMap_lt hm3
       clear hg3
       go_wp2_with (first
         | (at_lookup; refine wpList_lookup_own_int _ rfl _ _ 292 rfl 9 3 .i64 lawS Tryz.underlying292 Tryz.underlying3 (zeroI _) w.heap.size (i + 1) _ rfl hm3 _ _ rfl HKo.out ?_; intro c2 hat2 hwc2; obtain rfl:(0:Int) + 1 = c2 := by (rw [HPut.out] at hat2; injection hat2 with h; injection h with _ h))
         | (at_builtin; refine wpList_append_own_at _ rfl (.tmp 25) (.tmp 27) 29 rfl (w.heap.size + 1) 32 i0 _ 1 24 Tryz.underlying29 HInf.out.1 HInf.out.2.1 HInf.out.2.2.1 HInf.out.2.2.2 rfl (by decide) _ _ _ rfl (hown3.alloc _) ⟨w3.heap.size,0,none⟩ 1 1 [.slice qa qn qc] rfl rfl ?m1 ?m2 ?m3 ?m4 ?m5 ?_))
       case m2=>rfl
       case m3=>unfold maxLen; omega
       case m4=>omega
       case m5=>omega
       intro v12 w12 hown12 hg12 hnil12 ho12
       have HF := hide (HI2.out.new (q := q) HQ.out HCt.out HT3.out.1 HT3.out.2 ((Below.refl _ _).alloc (Nat.le_refl _) _) (by rw [HQ2.out]; exact hown12) hg12)
       obtain ⟨ya,yn,yc,rfl⟩ := own_slice hown12
       have hla:(rs ++ [q]).length <= i + 1 := by simp; omega
       generalize rs ++ [q] = rs' at *
       clear hown12 hg12 hnil12 ho12 hm3 HT3 HI2 hm2 hown3
       go_wp2_with fail
       go_roundw
       case rel=>exact ⟨i + 1,rs',_,by omega,by go_num,hla,HF.out⟩
       case measure=>simp [intOf]; omega
   · obtain rfl:i = qs.length := by omega
     have HE:Hid (Below w.heap.size w wr /\ ∃ ts u,Ending.returned (.slice sa rs.length sc) = .returned u /\ ts.map (·.1) = Pl.once (qs.map (·.1)) /\ ts.Sublist qs /\ wr.ownsRow w.heap.size 32 1 u ts.length (sndC ts)) := by
       have h := HI.out
       refine ⟨h.bel,rs,_,rfl,?_,?_,own_base h.own (by omega)⟩
       · rw [h.eq]; simp [Pl.onceGo]
       · have := h.sub; rwa [List.take_length] at this
     clear hbI HI
     go_wp2_with fail
     go_ret
     exact HE.out
end Go.Proofs.YtojdpjpldokjmaaGreatDoor
