/- The code's sift: rows for which a condition is TRUE, and the others. -/
import Derived.Test.YtojdpjpldokjmaaGreatDoorO16
import Derived.WalkMore
set_option maxHeartbeats 60000000
set_option maxRecDepth 100000
namespace Go.Proofs.YtojdpjpldokjmaaGreatDoor.Pl
abbrev PRow := List V × Go.Value
def siftP (cols:List Col) (c:T):List PRow -> Out (List PRow × List PRow)
 | []=>.ok ([],[])
 | r :: rs=>match ev cols r.1 c with
   | .error e=>.error e
   | .ok v=>match siftP cols c rs with
     | .error e=>.error e
     | .ok z=>.ok (@ite _ (v = tru true) (decV v (tru true)) (r :: z.1,z.2) (z.1,r :: z.2))
def fsts:Out (List PRow × List PRow) -> Out (List (List V) × List (List V))
 | .error e=>.error e
 | .ok z=>.ok (z.1.map (·.1),z.2.map (·.1))
theorem siftP_sift (cols:List Col) (c:T):∀ ps:List PRow,sift cols c (ps.map (·.1)) = fsts (siftP cols c ps)
 | []=>rfl
 | p :: ps=>by
   rw [List.map_cons,sift,siftP]
   cases ev cols p.1 c with
   | error e=>rfl
   | ok v =>
     simp only
     rw [siftP_sift cols c ps]
     cases siftP cols c ps with
     | error e=>rfl
     | ok z =>
       simp only [fsts]
       split <;> rfl
theorem siftP_mem {cols:List Col} {c:T}:∀ {ps:List PRow} {z:List PRow × List PRow},siftP cols c ps = .ok z -> (∀ p ∈ z.1,p ∈ ps) /\ (∀ p ∈ z.2,p ∈ ps) /\ z.1.length + z.2.length = ps.length
 | [],z,h=>by simp [siftP] at h; subst h; simp
 | r :: rs,z,h=>by
   unfold siftP at h
   cases he:ev cols r.1 c with
   | error e=>rw [he] at h; cases h
   | ok v =>
     rw [he] at h
     simp only at h
     cases hs:siftP cols c rs with
     | error e=>rw [hs] at h; cases h
     | ok y =>
       rw [hs] at h
       simp only at h
       obtain ⟨a,b,d⟩ := siftP_mem hs
       injection h with h
       split at h
       · subst h
         refine ⟨fun x hx=>?_,fun x hx=>List.mem_cons_of_mem _ (b x hx),by simp; omega⟩
         rcases List.mem_cons.1 hx with rfl | hx
         · simp
         · exact List.mem_cons_of_mem _ (a x hx)
       · subst h
         refine ⟨fun x hx=>List.mem_cons_of_mem _ (a x hx),fun x hx=>?_,by simp; omega⟩
         rcases List.mem_cons.1 hx with rfl | hx
         · simp
         · exact List.mem_cons_of_mem _ (b x hx)
def addS (a b:List PRow):Out (List PRow × List PRow) -> Out (List PRow × List PRow)
 | .error e=>.error e
 | .ok z=>.ok (a ++ z.1,b ++ z.2)
theorem addS_err {cols:List Col} {c:T} {p:PRow} {ps a b:List PRow} {e:Nat} (h:ev cols p.1 c = .error e):addS a b (siftP cols c (p :: ps)) = .error e := by
 rw [siftP,h]; rfl
theorem addS_yes {cols:List Col} {c:T} {p:PRow} {ps a b:List PRow} {v:V} (h:ev cols p.1 c = .ok v) (hv:v = tru true):addS a b (siftP cols c (p :: ps)) = addS (a ++ [p]) b (siftP cols c ps) := by
 rw [siftP,h]
 simp only
 cases siftP cols c ps with
 | error e=>rfl
 | ok z=>simp only [if_pos hv,addS]; simp
theorem addS_no {cols:List Col} {c:T} {p:PRow} {ps a b:List PRow} {v:V} (h:ev cols p.1 c = .ok v) (hv:¬ v = tru true):addS a b (siftP cols c (p :: ps)) = addS a (b ++ [p]) (siftP cols c ps) := by
 rw [siftP,h]
 simp only
 cases siftP cols c ps with
 | error e=>rfl
 | ok z=>simp only [if_neg hv,addS]; simp
end Go.Proofs.YtojdpjpldokjmaaGreatDoor.Pl
namespace Go.Proofs.YtojdpjpldokjmaaGreatDoor
open Go.RowKit Go.Deep
set_option linter.unusedSimpArgs false
set_option linter.unusedVariables false
def MatW (w:World) (hi:Nat) (ps:List Pl.PRow) (v:Value):Prop := RowsW w hi 1 (fun p=>[p.2]) ps v /\ ∀ p ∈ ps,RowsW w hi 3 vC p.1 p.2
theorem MatW.keep {w w':World} {hi:Nat} {ps:List Pl.PRow} {v:Value} (h:MatW w hi ps v) (hk:∀ k,k < hi -> w'.heap[k]? = w.heap[k]?):MatW w' hi ps v := ⟨h.1.keep hk,fun p hp=>(h.2 p hp).keep hk⟩
theorem MatW.more {w:World} {hi hi':Nat} {ps:List Pl.PRow} {v:Value} (h:MatW w hi ps v) (hk:hi <= hi'):MatW w hi' ps v := ⟨h.1.more hk,fun p hp=>(h.2 p hp).more hk⟩
theorem MatW.below {w w':World} {ps:List Pl.PRow} {v:Value} (h:MatW w w.heap.size ps v) (hb:Below w.heap.size w w'):MatW w' w'.heap.size ps v := (h.keep (fun k hk=>hb.block k hk)).more hb.size
def sndC (ps:List Pl.PRow):List Value := ps.map (·.2)
theorem sndC_flat (ps:List Pl.PRow):ps.flatMap (fun p=>[p.2]) = sndC ps := by
 induction ps with
 | nil=>rfl
 | cons a l ih=>rw [List.flatMap_cons,ih]; rfl
theorem mat_own {w:World} {base:Nat} {ps:List Pl.PRow} {v:Value} (h:w.ownsRow base 32 1 v ps.length (sndC ps)) (hr:∀ p ∈ ps,RowsW w w.heap.size 3 vC p.1 p.2):MatW w w.heap.size ps v := by
 rw [<- sndC_flat] at h
 exact ⟨own_rows (f := fun p:Pl.PRow=>[p.2]) (fun x=>rfl) h (Nat.le_refl _),hr⟩
def PostSift (w:World) (o:Pl.Out (List Pl.PRow × List Pl.PRow)) (e:Ending) (w':World):Prop := Below w.heap.size w w' /\
 ((∃ er,o = .error er /\ e = .returned (.tuple #[.slice none 0 0,.slice none 0 0,.int .i64 (er:Nat)])) \/
  (∃ z v1 v2,o = .ok z /\ e = .returned (.tuple #[v1,v2,.int .i64 0]) /\ w'.ownsRow w.heap.size 32 1 v1 z.1.length (sndC z.1) /\ w'.ownsRow w.heap.size 32 1 v2 z.2.length (sndC z.2) /\ (z.2 = [] -> v2 = .slice none 0 0)))
def SiftI (w wr:World) (O:Obj) (o:Pl.Out (List Pl.PRow × List Pl.PRow)) (cols:List Pl.Col) (c:Pl.T) (ps:List Pl.PRow) (i:Nat) (v1 v2:Value) (a b:List Pl.PRow):Prop :=
 Below (w.heap.size + 1) (w.alloc O) wr /\ wr.ownsRow (w.heap.size + 1) 32 1 v1 a.length (sndC a) /\ wr.ownsRow (w.heap.size + 1) 32 1 v2 b.length (sndC b) /\ (∀ k,v1.ownBlock = some k -> v2.ownBlock ≠ some k) /\ (b = [] -> v2 = .slice none 0 0) /\ a.length + b.length = i /\ o = Pl.addS a b (Pl.siftP cols c (ps.drop i))
theorem SiftI.low {w wr:World} {O:Obj} {o:Pl.Out (List Pl.PRow × List Pl.PRow)} {cols:List Pl.Col} {c:Pl.T} {ps:List Pl.PRow} {i:Nat} {v1 v2:Value} {a b:List Pl.PRow} (h:SiftI w wr O o cols c ps i v1 v2 a b):Below w.heap.size w wr /\ wr.heap[w.heap.size]? = some O /\ w.heap.size + 1 <= wr.heap.size := by
 have h1 := h.1
 have hz := h1.size
 simp at hz
 refine ⟨((Below.refl w.heap.size w).alloc (Nat.le_refl _) O).trans (h1.mono (Nat.le_succ _)),?_,hz⟩
 rw [h1.block _ (Nat.lt_succ_self _)]; exact blk_new _ _
theorem SiftI.left {w wr w2 w4:World} {O:Obj} {o:Pl.Out (List Pl.PRow × List Pl.PRow)} {cols:List Pl.Col} {c:Pl.T} {ps:List Pl.PRow} {i:Nat} {v1 v2 v':Value} {a b:List Pl.PRow} {p:Pl.PRow} {x:Pl.V} (h:SiftI w wr O o cols c ps i v1 v2 a b) (hp:ps.drop i = p :: ps.drop (i + 1)) (he:Pl.ev cols p.1 c = .ok x) (hx:x = Pl.tru true) (hb:Below wr.heap.size wr w2)
   (hown:w4.ownsRow (w.heap.size + 1) 32 1 v' (a.length + 1) (sndC a ++ [p.2])) (hg:w2.grownBy w4 v1.ownBlock) (ho:v'.ownBlock = v1.ownBlock \/ v'.ownBlock = some w2.heap.size):SiftI w w4 O o cols c ps (i + 1) v' v2 (a ++ [p]) b := by
 obtain ⟨h1,h2,h3,h4,h5,h6,h7⟩ := h
 have hz := h1.size
 simp at hz
 have hz2 := hb.size
 refine ⟨below_grown (h1.trans (hb.mono hz)) hg (fun k hk=>(h2.lt k hk).1) (by omega),by simpa [sndC] using hown,?_,fun k hk hk2=>?_,h5,by simp; omega,?_⟩
 · refine own_at (own_below hb h3) (fun k hk=>hg.block k (by have := (h3.lt k hk).2; omega) (fun e=>h4 k e.symm hk))
 · rcases ho with h0 | h0
   · rw [h0] at hk; exact h4 k hk hk2
   · rw [h0] at hk; injection hk with hk; have := (h3.lt k hk2).2; omega
 · rw [h7,hp]; exact Pl.addS_yes he hx
theorem SiftI.right {w wr w2 w4:World} {O:Obj} {o:Pl.Out (List Pl.PRow × List Pl.PRow)} {cols:List Pl.Col} {c:Pl.T} {ps:List Pl.PRow} {i:Nat} {v1 v2 v':Value} {a b:List Pl.PRow} {p:Pl.PRow} {x:Pl.V} (h:SiftI w wr O o cols c ps i v1 v2 a b) (hp:ps.drop i = p :: ps.drop (i + 1)) (he:Pl.ev cols p.1 c = .ok x) (hx:¬ x = Pl.tru true) (hb:Below wr.heap.size wr w2)
   (hown:w4.ownsRow (w.heap.size + 1) 32 1 v' (b.length + 1) (sndC b ++ [p.2])) (hg:w2.grownBy w4 v2.ownBlock) (ho:v'.ownBlock = v2.ownBlock \/ v'.ownBlock = some w2.heap.size):SiftI w w4 O o cols c ps (i + 1) v1 v' a (b ++ [p]) := by
 obtain ⟨h1,h2,h3,h4,h5,h6,h7⟩ := h
 have hz := h1.size
 simp at hz
 have hz2 := hb.size
 refine ⟨below_grown (h1.trans (hb.mono hz)) hg (fun k hk=>(h3.lt k hk).1) (by omega),?_,by simpa [sndC] using hown,fun k hk hk2=>?_,fun hn=>by simp at hn,by simp; omega,?_⟩
 · refine own_at (own_below hb h2) (fun k hk=>hg.block k (by have := (h2.lt k hk).2; omega) (fun e=>h4 k hk e.symm))
 · rcases ho with h0 | h0
   · rw [h0] at hk2; exact h4 k hk hk2
   · rw [h0] at hk2; injection hk2 with hk2; have := (h2.lt k hk).2; omega
 · rw [h7,hp]; exact Pl.addS_no he hx
theorem siftM (X:MachLib) (cols:List Pl.Col) (c:Pl.T) (ps:List Pl.PRow) (rv cv:Value) (w:World) (hm:MatW w w.heap.size ps rv) (hp:ProgW w w.heap.size cols c cv) (hf:Pl.Fine cols c) (hrow:∀ p ∈ ps,Pl.FineRow cols p.1) (hl:ps.length <= 1048576) :
   Calls Tryz.prog 107 #[rv,.agg #[cv]] w (PostSift w (Pl.siftP cols c ps)) := by
 obtain ⟨ra,rc,rfl⟩ := hm.1.slice
 obtain ⟨ca,cn,cc,rfl⟩ := hp.slice
 obtain ⟨i0,hi,hz0,hz1,hz2⟩ := info_parts Tryz.infoRow
 have HM := hide hm
 have HP := hide hp
 have HRow := hide hrow
 generalize ho:Pl.siftP cols c ps = o
 have HO := hide ho
 clear hm hp hrow ho
 go_enter Tryz.func107,Tryz.ntmps107
 go_wp2_with fail
 go_step3
 go_wp2_with fail
 go_step3
 go_wp2_with fail
 have HI0:Hid (SiftI w (w.alloc (.cells #[.slice ca cn cc] 204)) (.cells #[.slice ca cn cc] 204) o cols c ps 0 (.slice none 0 0) (.slice none 0 0) [] []) :=
   ⟨Below.refl _ _,World.ownsRow_nil _ _ _ _,World.ownsRow_nil _ _ _ _,fun k hk=>(by cases hk),fun _=>rfl,rfl,by rw [<- HO.out]; simp; cases Pl.siftP cols c ps <;> simp [Pl.addS]⟩
 go_loopw [7,8,15] (fun s7 s8 s15 wr=>∃ (i:Nat) (a b:List Pl.PRow),i <= ps.length /\ s15 = .int .i64 i /\ Hid (SiftI w wr (.cells #[.slice ca cn cc] 204) o cols c ps i s7 s8 a b)) (fun _ _ a _=>ps.length - (intOf a).toNat)
 case atStart=>exact ⟨0,[],[],Nat.zero_le _,rfl,HI0⟩
 case round =>
   obtain ⟨i,a,b,hi',rfl,HI⟩ := hrel
   clear HI0
   obtain ⟨hbI,hbox,hbz⟩ := HI.out.low
   have hwz:w.heap.size < wr.heap.size := by omega
   have bx := blk_cell hbox 0
   simp at bx
   obtain ⟨v1a,v1n,v1c,rfl⟩ := own_slice HI.out.2.1
   obtain ⟨v2a,v2n,v2c,rfl⟩ := own_slice HI.out.2.2.1
   by_cases hlt:i < ps.length
   · have hpi:ps[i]? = some ps[i] := List.getElem?_eq_getElem hlt
     have HD:Hid (ps.drop i = ps[i] :: ps.drop (i + 1)) := List.drop_eq_getElem_cons hlt
     have hmem := List.getElem_mem hlt
     generalize ps[i] = p at *
     obtain ⟨pr,pv⟩ := p
     obtain ⟨g,cap,he,hg,e0⟩ := (HM.out.1.keep (fun k hk=>hbI.block k hk)).at1 hpi
     cases he
     have hgz:g < wr.heap.size := by omega
     obtain ⟨qa,qc,hqv⟩:∃ a c,pv = .slice a pr.length c := (HM.out.2 _ hmem).slice
     subst hqv
     have HRun := hide (holdsT X (HP.out.below hbI) ((HM.out.2 _ hmem).below hbI) hf (HRow.out _ hmem))
     simp only at e0
     clear hbI hbox
     cases hev:Pl.ev cols pr c with
     | error er =>
       have her:((er:Int) != 0) = true := by have := ev_err hev; simp; omega
       simp only at HRun
       rw [hev] at HRun
       have HE:Hid (o = .error er) := by unfold Hid; rw [HI.out.2.2.2.2.2.2,HD.out]; exact Pl.addS_err hev
       simp only [holdV] at HRun
       go_wp2_with fail
       refine (unhide HRun).mono ?_
       rintro e w2 ⟨rfl,hb2⟩
       have HB2 := hide (HI.out.low.1.trans (hb2.mono (by omega)))
       clear hb2 HRun
       go_wp2_with fail
       (try rw [Exit.noGoto_ret])
       exact bodyPost_ret (v := .tuple #[.slice none 0 0,.slice none 0 0,.int .i64 (er:Nat)]) (by simp [results,Tryz.results107,go_sem]) rfl ⟨HB2.out,.inl ⟨er,HE.out,rfl⟩⟩
     | ok x =>
       simp only at HRun
       rw [hev] at HRun
       simp only [holdV] at HRun
       have HEv := hide hev
       clear hev
       by_cases hx:x = Pl.tru true
       · rw [Pl.V.same_yes hx] at HRun
         have HXx := hide hx
         clear hx
         go_wp2_with fail
         refine (unhide HRun).mono ?_
         rintro e w2 ⟨rfl,hb2⟩
         have HB2 := hide hb2
         have hown2 := own_below hb2 HI.out.2.1
         have hz2' := hb2.size
         have hal := HI.out.2.2.2.2.2.1
         clear hb2 HRun
         go_wp2_with (at_builtin; refine wpList_append_own_at _ rfl (.tmp 31) (.tmp 33) 29 rfl (w.heap.size + 1) 32 i0 _ 1 24 Tryz.underlying29 hi hz0 hz1 hz2 rfl (by decide) _ _ _ rfl (hown2.alloc _) ⟨w2.heap.size,0,none⟩ 1 1 [.slice qa pr.length qc] rfl rfl ?c1 ?c2 ?c3 ?c4 ?c5 ?_)
         case c1=>exact news_at w2 [.slice qa pr.length qc] 32
         case c2=>intro x hx; simp at hx; subst hx; rfl
         case c3=>unfold maxLen; omega
         case c4=>omega
         case c5=>simp; omega
         intro v' w4 hown4 hg4 hnil ho4
         have HI4 := hide (HI.out.left (p := (pr,.slice qa pr.length qc)) (w2 := w2.alloc (.cells #[.slice qa pr.length qc] 32)) HD.out HEv.out HXx.out (HB2.out.alloc hz2' _) hown4 hg4 (by simpa using ho4))
         clear hown2 hown4 hg4 hnil ho4
         go_wp2_with fail
         go_roundw
         case rel=>exact ⟨i + 1,_,_,by omega,by go_num,HI4⟩
         case measure=>simp [intOf]; omega
       · rw [Pl.V.same_no hx] at HRun
         have HXx := hide hx
         clear hx
         go_wp2_with fail
         refine (unhide HRun).mono ?_
         rintro e w2 ⟨rfl,hb2⟩
         have HB2 := hide hb2
         have hown2 := own_below hb2 HI.out.2.2.1
         have hz2' := hb2.size
         have hal := HI.out.2.2.2.2.2.1
         clear hb2 HRun
         go_wp2_with (at_builtin; refine wpList_append_own_at _ rfl (.tmp 35) (.tmp 37) 29 rfl (w.heap.size + 1) 32 i0 _ 1 24 Tryz.underlying29 hi hz0 hz1 hz2 rfl (by decide) _ _ _ rfl (hown2.alloc _) ⟨w2.heap.size,0,none⟩ 1 1 [.slice qa pr.length qc] rfl rfl ?c1 ?c2 ?c3 ?c4 ?c5 ?_)
         case c1=>exact news_at w2 [.slice qa pr.length qc] 32
         case c2=>intro x hx; simp at hx; subst hx; rfl
         case c3=>unfold maxLen; omega
         case c4=>omega
         case c5=>simp; omega
         intro v' w4 hown4 hg4 hnil ho4
         have HI4 := hide (HI.out.right (p := (pr,.slice qa pr.length qc)) (w2 := w2.alloc (.cells #[.slice qa pr.length qc] 32)) HD.out HEv.out HXx.out (HB2.out.alloc hz2' _) hown4 hg4 (by simpa using ho4))
         clear hown2 hown4 hg4 hnil ho4
         go_wp2_with fail
         go_roundw
         case rel=>exact ⟨i + 1,_,_,by omega,by go_num,HI4⟩
         case measure=>simp [intOf]; omega
   · obtain rfl:i = ps.length := by omega
     have HE:Hid (o = .ok (a,b)) := by unfold Hid; rw [HI.out.2.2.2.2.2.2,List.drop_length]; simp [Pl.siftP,Pl.addS]
     clear hbI hbox
     go_wp2_with fail
     (try rw [Exit.noGoto_ret])
     exact bodyPost_ret (v := .tuple #[.slice v1a v1n v1c,.slice v2a v2n v2c,.int .i64 0]) (by simp [results,Tryz.results107,go_sem]) rfl ⟨HI.out.low.1,.inr ⟨(a,b),_,_,HE.out,rfl,own_base HI.out.2.1 (Nat.le_succ _),own_base HI.out.2.2.1 (Nat.le_succ _),HI.out.2.2.2.2.1⟩⟩
theorem own_other {a b:World} {base base':Nat} {e e':TypeId} {size size' n n':Nat} {v u:Value} {xs ys:List Value} (h:a.ownsRow base e size v n xs) (hu:a.ownsRow base' e' size' u n' ys) (hg:a.grownBy b u.ownBlock) (he:e ≠ e'):b.ownsRow base e size v n xs := by
 refine own_at h (fun k hk=>hg.block k (h.lt k hk).2 (fun e2=>?_))
 obtain ⟨C,m,h1⟩ := own_ty h hk
 obtain ⟨C',m',h2⟩ := own_ty hu e2.symm
 exact ty_ne h1 h2 he rfl
def NewRows (w:World) (base:Nat) (qs:List Pl.PRow):Prop := (∀ q ∈ qs,w.ownsRow base 34 3 q.2 q.1.length (rowC q.1)) /\ qs.Pairwise (fun a b=>∀ k,a.2.ownBlock = some k -> b.2.ownBlock ≠ some k)
theorem NewRows.rows {w:World} {base:Nat} {qs:List Pl.PRow} (h:NewRows w base qs):∀ p ∈ qs,RowsW w w.heap.size 3 vC p.1 p.2 := fun p hp=>own_rows (f := vC) (fun x=>rfl) (h.1 p hp) (Nat.le_refl _)
theorem NewRows.base {w:World} {base base':Nat} {qs:List Pl.PRow} (h:NewRows w base qs) (hb:base' <= base):NewRows w base' qs := ⟨fun q hq=>own_base (h.1 q hq) hb,h.2⟩
theorem NewRows.below {w w':World} {base:Nat} {qs:List Pl.PRow} (h:NewRows w base qs) (hb:Below w.heap.size w w'):NewRows w' base qs := ⟨fun q hq=>own_below hb (h.1 q hq),h.2⟩
def PostRows (w:World) (o:Pl.Out (List (List Pl.V))) (e:Ending) (w':World):Prop := Below w.heap.size w w' /\
 ((∃ er,o = .error er /\ e = .returned (.tuple #[.slice none 0 0,.int .i64 (er:Nat)])) \/
  (∃ qs v,o = .ok (qs.map (·.1)) /\ e = .returned (.tuple #[v,.int .i64 0]) /\ w'.ownsRow w.heap.size 32 1 v qs.length (sndC qs) /\ NewRows w' w.heap.size qs))
def addR (acc:List (List Pl.V)):Pl.Out (List (List Pl.V)) -> Pl.Out (List (List Pl.V))
 | .error e=>.error e
 | .ok vs=>.ok (acc ++ vs)
theorem addR_step {cols:List Pl.Col} {ts:List Pl.T} {r:List Pl.V} {rs:List (List Pl.V)} {v:List Pl.V} {acc:List (List Pl.V)} (h:Pl.evAll cols r ts = .ok v):addR acc (Pl.evRows cols ts (r :: rs)) = addR (acc ++ [v]) (Pl.evRows cols ts rs) := by
 rw [Pl.evRows,h]
 simp only
 cases Pl.evRows cols ts rs with
 | error e=>rfl
 | ok vs=>simp [addR]
theorem addR_err {cols:List Pl.Col} {ts:List Pl.T} {r:List Pl.V} {rs:List (List Pl.V)} {e:Nat} {acc:List (List Pl.V)} (h:Pl.evAll cols r ts = .error e):addR acc (Pl.evRows cols ts (r :: rs)) = .error e := by
 rw [Pl.evRows,h]; rfl
def RowsI (w wr:World) (o:Pl.Out (List (List Pl.V))) (cols:List Pl.Col) (ts:List Pl.T) (ps:List Pl.PRow) (i:Nat) (v:Value) (qs:List Pl.PRow):Prop :=
 Below w.heap.size w wr /\ wr.ownsRow w.heap.size 32 1 v qs.length (sndC qs) /\ NewRows wr w.heap.size qs /\ qs.length = i /\ o = addR (qs.map (·.1)) (Pl.evRows cols ts ((ps.drop i).map (·.1)))
theorem RowsI.next {w wr w2 w4:World} {o:Pl.Out (List (List Pl.V))} {cols:List Pl.Col} {ts:List Pl.T} {ps:List Pl.PRow} {i:Nat} {v v' u:Value} {qs:List Pl.PRow} {p:Pl.PRow} {r:List Pl.V} (h:RowsI w wr o cols ts ps i v qs) (hp:ps.drop i = p :: ps.drop (i + 1)) (he:Pl.evAll cols p.1 ts = .ok r) (hb:Below wr.heap.size wr w2) (hu:w2.ownsRow wr.heap.size 34 3 u r.length (rowC r))
   (hown:w4.ownsRow w.heap.size 32 1 v' (qs.length + 1) (sndC qs ++ [u])) (hg:w2.grownBy w4 v.ownBlock):RowsI w w4 o cols ts ps (i + 1) v' (qs ++ [(r,u)]) := by
 obtain ⟨h1,h2,h3,h4,h5⟩ := h
 have hz := h1.size
 have hz2 := hb.size
 have h22 := own_below hb h2
 refine ⟨below_grown (h1.trans (hb.mono hz)) hg (fun k hk=>(h2.lt k hk).1) (by omega),by simpa [sndC] using hown,⟨fun q hq=>?_,?_⟩,by simp [h4],?_⟩
 · rcases List.mem_append.1 hq with hq | hq
   · exact own_other (own_below hb (h3.1 q hq)) h22 hg (by decide)
   · simp at hq; subst hq
     exact own_base (own_other hu h22 hg (by decide)) hz
 · rw [List.pairwise_append]
   refine ⟨h3.2,by simp,fun a ha b hb' k hk hk2=>?_⟩
   simp at hb'; subst hb'
   have := ((h3.1 a ha).lt k hk).2
   have := (hu.lt k hk2).1
   omega
 · rw [h5,hp,List.map_cons,addR_step he]
   simp
theorem reckonRowsM (X:MachLib) (cols:List Pl.Col) (ts:List (Pl.T × Value)) (ps:List Pl.PRow) (rv pv:Value) (w:World) (hm:MatW w w.heap.size ps rv) (hp:ProgsW w w.heap.size cols ts pv) (hf:∀ p ∈ ts,Pl.Fine cols p.1) (hrow:∀ p ∈ ps,Pl.FineRow cols p.1) (hl:ps.length <= 1048576) (htl:ts.length <= 1000) :
   Calls Tryz.prog 113 #[rv,pv] w (PostRows w (Pl.evRows cols (ts.map (·.1)) (ps.map (·.1)))) := by
 obtain ⟨ra,rc,rfl⟩ := hm.1.slice
 obtain ⟨i0,hi,hz0,hz1,hz2⟩ := info_parts Tryz.infoRow
 have HM := hide hm
 have HP := hide hp
 have HF := hide hf
 have HRow := hide hrow
 generalize ho:Pl.evRows cols (ts.map (·.1)) (ps.map (·.1)) = o
 have HO := hide ho
 clear hm hp hf hrow ho
 go_enter Tryz.func113,Tryz.ntmps113
 go_wp2_with fail
 have HI0:Hid (RowsI w w o cols (ts.map (·.1)) ps 0 (.slice none 0 0) []) :=
   ⟨Below.refl _ _,World.ownsRow_nil _ _ _ _,⟨by simp,by simp⟩,rfl,by rw [<- HO.out]; simp; cases Pl.evRows cols (ts.map (·.1)) (ps.map (·.1)) <;> simp [addR]⟩
 go_loopw [6,13] (fun s6 s13 wr=>∃ (i:Nat) (qs:List Pl.PRow),i <= ps.length /\ s13 = .int .i64 i /\ Hid (RowsI w wr o cols (ts.map (·.1)) ps i s6 qs)) (fun _ a _=>ps.length - (intOf a).toNat)
 case atStart=>exact ⟨0,[],Nat.zero_le _,rfl,HI0⟩
 case round =>
   obtain ⟨i,qs,hi',rfl,HI⟩ := hrel
   clear HI0
   have hbI := HI.out.1
   have hbz := hbI.size
   obtain ⟨v1a,v1n,v1c,rfl⟩ := own_slice HI.out.2.1
   by_cases hlt:i < ps.length
   · have hpi:ps[i]? = some ps[i] := List.getElem?_eq_getElem hlt
     have HD:Hid (ps.drop i = ps[i] :: ps.drop (i + 1)) := List.drop_eq_getElem_cons hlt
     have hmem := List.getElem_mem hlt
     generalize ps[i] = p at *
     obtain ⟨pr,pv'⟩ := p
     obtain ⟨g,cap,he,hg,e0⟩ := (HM.out.1.keep (fun k hk=>hbI.block k hk)).at1 hpi
     cases he
     have hgz:g < wr.heap.size := by omega
     obtain ⟨qa,qc,hqv⟩:∃ a c,pv' = .slice a pr.length c := (HM.out.2 _ hmem).slice
     subst hqv
     have HRun := hide (reckonAllM X cols pr ts pv _ wr (HP.out.below hbI) ((HM.out.2 _ hmem).below hbI) HF.out (HRow.out _ hmem) htl)
     simp only at e0
     clear hbI
     go_wp2_with fail
     refine (unhide HRun).mono ?_
     rintro e w2 ⟨hb2,hp2⟩
     have HB2 := hide hb2
     have hz2' := hb2.size
     clear HRun hb2
     rcases hp2 with ⟨er,hev,rfl⟩ | ⟨r,u,hev,rfl,hu⟩
     · have her:((er:Int) != 0) = true := by have := evAll_err hev; simp; omega
       have HE:Hid (o = .error er) := by unfold Hid; rw [HI.out.2.2.2.2,HD.out]; exact addR_err hev
       clear hev
       go_wp2_with fail
       exact bodyPost_ret (v := .tuple #[.slice none 0 0,.int .i64 (er:Nat)]) (by simp [results,Tryz.results113,go_sem]) rfl ⟨HI.out.1.trans (HB2.out.mono hbz),.inl ⟨er,HE.out,rfl⟩⟩
     · obtain ⟨ua,un,uc,rfl⟩ := own_slice hu
       have HU := hide hu
       have HEv := hide hev
       have hown2 := own_below HB2.out HI.out.2.1
       have hal := HI.out.2.2.2.1
       clear hev hu
       go_wp2_with (at_builtin; refine wpList_append_own_at _ rfl (.tmp 26) (.tmp 28) 29 rfl w.heap.size 32 i0 _ 1 24 Tryz.underlying29 hi hz0 hz1 hz2 rfl (by decide) _ _ _ rfl (hown2.alloc _) ⟨w2.heap.size,0,none⟩ 1 1 [.slice ua un uc] rfl rfl ?c1 ?c2 ?c3 ?c4 ?c5 ?_)
       case c1=>exact news_at w2 [.slice ua un uc] 32
       case c2=>intro x hx; simp at hx; subst hx; rfl
       case c3=>unfold maxLen; omega
       case c4=>omega
       case c5=>simp; omega
       intro v' w4 hown4 hg4 hnil ho4
       have HI4:Hid (RowsI w w4 o cols (ts.map (·.1)) ps (i + 1) v' (qs ++ [(r,.slice ua un uc)])) := HI.out.next (w2 := w2.alloc (.cells #[.slice ua un uc] 32)) HD.out HEv.out (HB2.out.alloc hz2' _) (HU.out.alloc _) (by rw [hal]; exact hown4) hg4
       clear hown2 hown4 hg4 hnil ho4
       go_wp2_with fail
       go_roundw
       case rel=>exact ⟨i + 1,_,by omega,by go_num,HI4⟩
       case measure=>simp [intOf]; omega
   · obtain rfl:i = ps.length := by omega
     have HE:Hid (o = .ok (qs.map (·.1))) := by unfold Hid; rw [HI.out.2.2.2.2,List.drop_length]; simp [Pl.evRows,addR]
     clear hbI
     go_wp2_with fail
     exact bodyPost_ret (v := .tuple #[.slice v1a v1n v1c,.int .i64 0]) (by simp [results,Tryz.results113,go_sem]) rfl ⟨HI.out.1,.inr ⟨qs,_,HE.out,rfl,HI.out.2.1,HI.out.2.2.1⟩⟩
def PostVals (w:World) (ts:List Pl.T) (e:Ending) (w':World):Prop := Below w.heap.size w w' /\ ∃ v ps,e = .returned v /\ ps.map (·.1) = ts /\ TreesW w' w'.heap.size ps v
theorem Tryz.infoVp:(Tryz.prog.info? 199).map (fun i=>(i.zero,i.size,i.bytes)) = some (some (.pointer none),1,8) := by kernel_rfl
def NodeAt (w:World) (c:Pl.Col) (u:Value):Prop := ∃ n,u = .pointer (some ⟨n,0,none⟩) /\ w.heap[n]? = some (.cells #[.int .i64 1,.int .i64 0,.int .i64 0,.string ⟨#[]⟩,.string ⟨c.src.toArray⟩,.string ⟨c.name.toArray⟩,.pointer none,.pointer none] 269)
theorem NodeAt.below {w w':World} {c:Pl.Col} {u:Value} (h:NodeAt w c u) (hb:Below w.heap.size w w'):NodeAt w' c u := by
 obtain ⟨n,h1,h2⟩ := h; exact ⟨n,h1,below_blk hb (lt_of_blk h2) h2⟩
theorem NodeAt.grown {a b:World} {c:Pl.Col} {u v:Value} {base size n:Nat} {xs:List Value} (h:NodeAt a c u) (hv:a.ownsRow base 199 size v n xs) (hg:a.grownBy b v.ownBlock):NodeAt b c u := by
 obtain ⟨n,h1,h2⟩ := h
 refine ⟨n,h1,(hg.block n (lt_of_blk h2) (fun e=>?_)).trans h2⟩
 obtain ⟨C,m,h3⟩ := own_ty hv e.symm
 exact ty_ne h2 h3 (by decide) rfl
theorem NodeAt.tr {w:World} {c:Pl.Col} {u:Value} (h:NodeAt w c u):TrW w w.heap.size (Pl.tName c.src c.name) u := by
 obtain ⟨n,h1,h2⟩ := h
 exact ⟨n,_,_,h1,lt_of_blk h2,h2,rfl,rfl⟩
def cvC (ps:List (Pl.Col × Value)):List Value := ps.map (·.2)
def StarI (w wr:World) (cols:List Pl.Col) (i:Nat) (v:Value) (ps:List (Pl.Col × Value)):Prop :=
 Below w.heap.size w wr /\ wr.ownsRow w.heap.size 199 1 v i (cvC ps) /\ ps.map (·.1) = cols.take i /\ ps.length = i /\ ∀ p ∈ ps,NodeAt wr p.1 p.2
theorem trees_flat (ps:List (Pl.T × Value)):ps.flatMap (fun p=>[p.2]) = ps.map (·.2) := by
 induction ps with
 | nil=>rfl
 | cons a l ih=>rw [List.flatMap_cons,ih]; rfl
theorem StarI.end {w wr:World} {cols:List Pl.Col} {v:Value} {ps:List (Pl.Col × Value)} (h:StarI w wr cols cols.length v ps):∃ qs:List (Pl.T × Value),qs.map (·.1) = Pl.stars cols /\ TreesW wr wr.heap.size qs v := by
 obtain ⟨h1,h2,h3,h4,h5⟩ := h
 refine ⟨ps.map (fun p=>(Pl.tName p.1.src p.1.name,p.2)),?_,?_,?_⟩
 · rw [List.take_length] at h3
   unfold Pl.stars
   rw [<- h3,List.map_map,List.map_map]
   rfl
 · have e:(ps.map (fun p=>(Pl.tName p.1.src p.1.name,p.2))).flatMap (fun p:Pl.T × Value=>[p.2]) = cvC ps := by
     rw [trees_flat,List.map_map]; rfl
   rw [<- h4] at h2
   refine own_rows (f := fun p:Pl.T × Value=>[p.2]) (fun x=>rfl) (base := w.heap.size) (e := 199) ?_ (Nat.le_refl _)
   rw [e,List.length_map]; exact h2
 · intro p hp
   obtain ⟨q,hq,rfl⟩ := List.mem_map.1 hp
   exact (h5 q hq).tr
theorem valuesOfM (cols:List Pl.Col) (n:Nat) (cv:Value) (w:World) (hn:n < w.heap.size) (hc:w.cell? ⟨n,1,none⟩ = some (.slice none 0 0)) (hcv:RowsW w w.heap.size 3 colC cols cv) (hl:cols.length <= 1000) :
   Calls Tryz.prog 171 #[.pointer (some ⟨n,0,none⟩),cv] w (PostVals w (Pl.stars cols)) := by
 obtain ⟨ca,cc,rfl⟩ := hcv.slice
 obtain ⟨i0,hi,hz0,hz1,hz2⟩ := info_parts Tryz.infoVp
 have HC := hide hcv
 clear hcv
 go_enter Tryz.func171,Tryz.ntmps171
 go_wp2_with fail
 go_loopw [5,19] (fun s5 s19 wr=>∃ (i:Nat) (ps:List (Pl.Col × Value)),i <= cols.length /\ s19 = .int .i64 i /\ Hid (StarI w wr cols i s5 ps)) (fun _ a _=>cols.length - (intOf a).toNat)
 case atStart=>exact ⟨0,[],Nat.zero_le _,rfl,Below.refl _ _,World.ownsRow_nil _ _ _ _,rfl,rfl,by simp⟩
 case round =>
   obtain ⟨i,ps,hi',rfl,HI⟩ := hrel
   have hbI := HI.out.1
   have hown := HI.out.2.1
   obtain ⟨va,vn,vc,rfl⟩ := own_slice hown
   have hbz := hbI.size
   by_cases hlt:i < cols.length
   · have hpi:cols[i]? = some cols[i] := List.getElem?_eq_getElem hlt
     have HD:Hid (cols.take (i + 1) = cols.take i ++ [cols[i]]) := by unfold Hid; rw [List.take_add_one,hpi]; rfl
     generalize cols[i] = c at *
     obtain ⟨g,cap,he,hg,e0,e1,e2⟩ := (HC.out.keep (fun k hk=>hbI.block k hk)).col hpi
     cases he
     have hgz:g < wr.heap.size := by omega
     clear hbI
     go_wp2_with (at_builtin; refine wpList_append_own _ rfl (.tmp 23) (.tmp 30) 192 rfl w.heap.size 199 i0 _ 1 8 Tryz.underlying192 hi hz0 hz1 hz2 rfl (by decide) _ _ _ rfl (((hown.alloc _).alloc _).alloc _) ⟨wr.heap.size + 1 + 1,0,none⟩ 1 1 [.pointer (some ⟨wr.heap.size + 1,0,none⟩)] rfl rfl ?c1 ?c2 ?c3 ?c4 ?c5 ?_)
     case c1 =>
       have := news2 (wr.alloc (.cells (colC c).toArray 271)) (.cells #[.int .i64 1,.int .i64 0,.int .i64 0,.string ⟨#[]⟩,.string ⟨c.src.toArray⟩,.string ⟨c.name.toArray⟩,.pointer none,.pointer none] 269) [.pointer (some ⟨wr.heap.size + 1,0,none⟩)] 199
       simp only [World.alloc,Array.size_push] at this ⊢
       exact this
     case c2=>intro x hx; simp at hx; subst hx; rfl
     case c3=>unfold maxLen; omega
     case c4=>omega
     case c5=>simp; omega
     intro v' w4 hown4 hg4 hnil
     have HI4:Hid (StarI w w4 cols (i + 1) v' (ps ++ [(c,.pointer (some ⟨wr.heap.size + 1,0,none⟩))])) := by
       have hb3:Below wr.heap.size wr (((wr.alloc (.cells #[.string ⟨c.src.toArray⟩,.string ⟨c.name.toArray⟩,.int .i64 c.type] 271)).alloc (.cells #[.int .i64 1,.int .i64 0,.int .i64 0,.string ⟨#[]⟩,.string ⟨c.src.toArray⟩,.string ⟨c.name.toArray⟩,.pointer none,.pointer none] 269)).alloc (.cells #[.pointer (some ⟨wr.heap.size + 1,0,none⟩)] 199)) := (((Below.refl _ _).alloc (Nat.le_refl _) _).alloc (by simp) _).alloc (by simp; omega) _
       refine ⟨below_grown (HI.out.1.trans (hb3.mono hbz)) hg4 (fun k hk=>(hown.lt k hk).1) (by simp; omega),by simpa [cvC] using hown4,by rw [HD.out,List.map_append,HI.out.2.2.1]; rfl,by simp [HI.out.2.2.2.1],fun p hp=>?_⟩
       rcases List.mem_append.1 hp with hp | hp
       · exact ((HI.out.2.2.2.2 p hp).below hb3).grown (own_below hb3 hown) hg4
       · simp at hp; subst hp
         exact NodeAt.grown ⟨_,rfl,blk_alloc (blk_new' _ _ _ (by simp)) _⟩ (own_below hb3 hown) hg4
     clear hown hown4 hg4 hnil
     go_wp2_with fail
     go_roundw
     case rel=>exact ⟨i + 1,_,by omega,by go_num,HI4⟩
     case measure=>simp [intOf]; omega
   · obtain rfl:i = cols.length := by omega
     obtain ⟨qs,hq1,hq2⟩ := HI.out.end
     have HQ := hide hq2
     clear hbI hown hq2
     go_wp2_with fail
     go_ret
     exact ⟨HI.out.1,_,qs,rfl,hq1,HQ.out⟩
theorem valuesOfM' (a:Addr) (m c:Nat) (n:Nat) (cv:Value) (w:World) (hn:n < w.heap.size) (hc:w.cell? ⟨n,1,none⟩ = some (.slice (some a) m c)) :
   Calls Tryz.prog 171 #[.pointer (some ⟨n,0,none⟩),cv] w fun e w' => e = .returned (.slice (some a) m c) /\ w' = w := by
 go_enter Tryz.func171,Tryz.ntmps171
 go_wp2_with fail
 go_ret
 exact ⟨rfl,rfl⟩
abbrev Key := Pl.T × Value × Bool
def keyC (k:Key):List Value := [k.2.1,.bool k.2.2]
def KeysW (w:World) (hi:Nat) (ks:List Key) (v:Value):Prop := RowsW w hi 2 keyC ks v /\ ∀ k ∈ ks,TrW w hi k.1 k.2.1
theorem RowsW.key {w:World} {hi:Nat} {ks:List Key} {v:Value} (h:RowsW w hi 2 keyC ks v) {i:Nat} {c:Key} (hc:ks[i]? = some c):∃ g cap,v = .slice (some ⟨g,0,none⟩) ks.length cap /\ g < hi /\
   w.cell? ⟨g,i * 2,none⟩ = some c.2.1 /\ w.cell? ⟨g,i * 2 + 1,none⟩ = some (.bool c.2.2) := by
 obtain ⟨a,cap,rfl,h2⟩ := h
 obtain ⟨g,rfl,hg,h3⟩ := h2 (by rintro rfl; simp at hc)
 exact ⟨g,cap,rfl,hg,h3 i c hc 0 _ rfl,h3 i c hc 1 _ rfl⟩
theorem TrW.ptr {w:World} {hi:Nat} {t:Pl.T} {v:Value} (h:TrW w hi t v):∃ a,v = .pointer a := by
 cases t with
 | nil=>exact ⟨none,h⟩
 | node=>obtain ⟨n,_,_,h1,_⟩ := h; exact ⟨_,h1⟩
def OrdI (w wr:World) (ks:List Key) (i:Nat) (v:Value):Prop := Below w.heap.size w wr /\ wr.ownsRow w.heap.size 199 1 v i ((ks.take i).map (fun k=>k.2.1))
theorem orderValuesM (ks:List Key) (kv:Value) (w:World) (hk:KeysW w w.heap.size ks kv) (hl:ks.length <= 1000) :
   Calls Tryz.prog 172 #[kv] w (PostVals w (ks.map (·.1))) := by
 obtain ⟨ka,kc,rfl⟩ := hk.1.slice
 obtain ⟨i0,hi,hz0,hz1,hz2⟩ := info_parts Tryz.infoVp
 have HK := hide hk
 clear hk
 go_enter Tryz.func172,Tryz.ntmps172
 go_wp2_with fail
 go_loopw [3,8] (fun s3 s8 wr=>∃ (i:Nat),i <= ks.length /\ s8 = .int .i64 i /\ Hid (OrdI w wr ks i s3)) (fun _ a _=>ks.length - (intOf a).toNat)
 case atStart=>exact ⟨0,Nat.zero_le _,rfl,Below.refl _ _,World.ownsRow_nil _ _ _ _⟩
 case round =>
   obtain ⟨i,hi',rfl,HI⟩ := hrel
   have hbI := HI.out.1
   have hown := HI.out.2
   obtain ⟨va,vn,vc,rfl⟩ := own_slice hown
   have hbz := hbI.size
   by_cases hlt:i < ks.length
   · have hpi:ks[i]? = some ks[i] := List.getElem?_eq_getElem hlt
     have HD:Hid (ks.take (i + 1) = ks.take i ++ [ks[i]]) := by unfold Hid; rw [List.take_add_one,hpi]; rfl
     have hmem := List.getElem_mem hlt
     generalize ks[i] = c at *
     obtain ⟨ct,cp,cb⟩ := c
     obtain ⟨pa,hpa⟩:∃ a,cp = .pointer a := (HK.out.2 _ hmem).ptr
     subst hpa
     obtain ⟨g,cap,he,hg,e0,e1⟩ := (HK.out.1.keep (fun k hk=>hbI.block k hk)).key hpi
     cases he
     have hgz:g < wr.heap.size := by omega
     simp only at e0 e1
     clear hbI
     go_wp2_with (at_builtin; refine wpList_append_own _ rfl (.tmp 12) (.tmp 15) 192 rfl w.heap.size 199 i0 _ 1 8 Tryz.underlying192 hi hz0 hz1 hz2 rfl (by decide) _ _ _ rfl ((hown.alloc _).alloc _) ⟨wr.heap.size + 1,0,none⟩ 1 1 [.pointer pa] rfl rfl ?c1 ?c2 ?c3 ?c4 ?c5 ?_)
     case c1=>exact news2 wr _ [.pointer pa] 199
     case c2=>intro x hx; simp at hx; subst hx; rfl
     case c3=>unfold maxLen; omega
     case c4=>omega
     case c5=>simp; omega
     intro v' w4 hown4 hg4 hnil
     have HI4:Hid (OrdI w w4 ks (i + 1) v') := by
       refine ⟨below_grown ((HI.out.1.alloc HI.out.1.size _).alloc (by simp; omega) _) hg4 (fun k hk=>(hown.lt k hk).1) (by simp; omega),?_⟩
       rw [HD.out,List.map_append]
       rw [List.map_take]
       exact hown4
     clear hown hown4 hg4 hnil
     go_wp2_with fail
     go_roundw
     case rel=>exact ⟨i + 1,by omega,by go_num,HI4⟩
     case measure=>simp [intOf]; omega
   · obtain rfl:i = ks.length := by omega
     rw [List.take_length] at hown
     have HT:Hid (TreesW wr wr.heap.size (ks.map (fun k=>(k.1,k.2.1))) (.slice va vn vc)) := by
       refine ⟨own_rows (f := fun p:Pl.T × Value=>[p.2]) (fun x=>rfl) (base := w.heap.size) (e := 199) ?_ (Nat.le_refl _),fun p hp=>?_⟩
       · rw [trees_flat,List.map_map,List.length_map]; exact hown
       · obtain ⟨k,hk,rfl⟩ := List.mem_map.1 hp
         exact ((HK.out.2 k hk).keep (fun j hj=>hbI.block j hj)).more hbz
     clear hbI hown
     go_wp2_with fail
     go_ret
     exact ⟨HI.out.1,_,_,rfl,by rw [List.map_map]; rfl,HT.out⟩
theorem own_empty (w:World) (e:TypeId) (size:Nat):(w.alloc (.cells #[] e)).ownsRow w.heap.size e size (.slice (some ⟨w.heap.size,0,none⟩) 0 0) 0 [] :=
 ⟨by simp,.inr ⟨w.heap.size,0,#[],rfl,Nat.le_refl _,blk_new _ _,Nat.le_refl _,by unfold maxLen; omega,by simp,by simp⟩⟩
theorem cloneRowsM (us:List Value) (ad:Addr) (c:Nat) (w:World) (hc:∀ j u,us[j]? = some u -> w.cell? (ad.add j) = some u) (hlt:us ≠ [] -> ad.block < w.heap.size) (h1:∀ u ∈ us,u.oneCell' = true) (hl:us.length <= 1048576) :
   Calls Tryz.prog 167 #[.slice (some ad) us.length c] w fun e w' => Below w.heap.size w w' /\ ∃ v,e = .returned v /\ w'.ownsRow w.heap.size 32 1 v us.length us := by
 obtain ⟨i0,hi,hz0,hz1,hz2⟩ := info_parts Tryz.infoRow
 have HC:Hid (∀ j u,us[j]? = some u -> (w.alloc (.cells #[] 32)).cell? (ad.add j) = some u) := fun j u hj=>by
   have hb := hlt (by rintro rfl; simp at hj)
   have e:(ad.add j).block = ad.block := by unfold Addr.add; split <;> rfl
   have := hc j u hj
   generalize ad.add j = aj at *
   obtain ⟨b,o,f⟩ := aj
   simp only at e
   subst e
   unfold World.cell? at this ⊢
   simp only at this ⊢
   rw [Below.heap_alloc _ _ _ hb]
   exact this
 have H1 := hide h1
 have hnl := fun (w:World) (a:Option Addr) (n c:Nat)=>Lib.run_eql_slice_nil (P := Tryz.prog) w 29 _ a n c 0 0 Tryz.underlying29
 clear hc h1
 go_enter Tryz.func167,Tryz.ntmps167
 go_wp2_with (at_builtin; refine wpList_append_own _ rfl (.tmp 5) (.tmp 6) 29 rfl w.heap.size 32 i0 _ 1 24 Tryz.underlying29 hi hz0 hz1 hz2 rfl (by decide) _ _ _ rfl (own_empty w 32 1) ad us.length c us rfl ?c0 ?c1 ?c2 ?c3 ?c4 ?c5 ?_)
 case c0=>simp
 case c1=>exact HC.out
 case c2=>exact H1.out
 case c3=>unfold maxLen; omega
 case c4=>omega
 case c5=>simp
 intro v' w4 hown4 hg4 hnil
 have HB:Hid (Below w.heap.size w w4) := below_grown ((Below.refl _ _).alloc (Nat.le_refl _) _) hg4 (fun k hk=>by simp [Value.ownBlock] at hk; omega) (by simp)
 have HO := hide hown4
 clear hown4 hg4 hnil
 go_wp2_with fail
 go_ret
 refine ⟨HB.out,_,rfl,?_⟩
 have := HO.out
 simpa using this
theorem cloneNilM (w:World):Calls Tryz.prog 167 #[.slice none 0 0] w fun e w' => e = .returned (.slice none 0 0) /\ w' = w := by
 have hnl := fun (w:World) (a:Option Addr) (n c:Nat)=>Lib.run_eql_slice_nil (P := Tryz.prog) w 29 _ a n c 0 0 Tryz.underlying29
 go_enter Tryz.func167,Tryz.ntmps167
 go_wp2_with fail
 go_ret
 exact ⟨rfl,rfl⟩
def part (qs:List Pl.PRow) (off lim:Nat):List Pl.PRow := (qs.drop off).take lim
theorem windowM (qs:List Pl.PRow) (base:Nat) (v:Value) (off lim:Nat) (w:World) (hown:w.ownsRow base 32 1 v qs.length (sndC qs)) (h1:∀ q ∈ qs,∃ a m c,q.2 = .slice a m c) (hl:qs.length <= 1048576) :
   Calls Tryz.prog 115 #[v,.int .i64 off,.int .i64 lim] w fun e w' => Below w.heap.size w w' /\ ∃ u,e = .returned u /\ w'.ownsRow w.heap.size 32 1 u (part qs off lim).length (sndC (part qs off lim)) := by
 rcases hown.2 with ⟨rfl,h0⟩ | ⟨g,cap,cur,rfl,hb,hg,hc,hm,hs,ht⟩
 · obtain rfl:qs = [] := List.length_eq_zero_iff.1 h0
   have HC := hide (cloneNilM w)
   have HP:Hid (part [] off lim = []) := by unfold Hid part; simp
   clear hown h0
   have HE:Hid (∀ w',Below w.heap.size w w' -> Below w.heap.size w w' /\ ∃ u,Ending.returned (.slice none 0 0) = .returned u /\ w'.ownsRow w.heap.size 32 1 u (part [] off lim).length (sndC (part [] off lim))) := fun w' hb=>by
     rw [HP.out]; exact ⟨hb,_,rfl,World.ownsRow_nil _ _ _ _⟩
   generalize hpost:(fun (e:Ending) (w':World)=>Below w.heap.size w w' /\ ∃ u,e = .returned u /\ w'.ownsRow w.heap.size 32 1 u (part [] off lim).length (sndC (part [] off lim))) = Post
   have HPost:Hid (∀ e w',(Below w.heap.size w w' /\ ∃ u,e = .returned u /\ w'.ownsRow w.heap.size 32 1 u (part [] off lim).length (sndC (part [] off lim))) -> Post e w') := fun e w' h=>by rw [<- hpost]; exact h
   clear hpost
   have hcases:∀ x:Nat,x = 0 \/ 0 < x := fun x=>by omega
   rcases hcases off with rfl | hoff <;> rcases hcases lim with rfl | hlim
   all_goals
     go_enter Tryz.func115,Tryz.ntmps115
     go_wp2_with fail
     refine (unhide HC).mono ?_
     rintro e w1 ⟨rfl,rfl⟩
     go_wp2_with fail
     exact HPost.out _ _ (HE.out _ (Below.refl _ _))
 · have hgz := lt_of_blk hg
   have HPl:Hid ((part qs off lim).length = min lim (qs.length - off)) := by unfold Hid part; simp
   have HCl:Hid (∀ L ad c,L = (part qs off lim).length -> (L ≠ 0 -> ad = ⟨g,off,none⟩) -> Calls Tryz.prog 167 #[.slice (some ad) L c] w fun e w' => Below w.heap.size w w' /\ ∃ u,e = .returned u /\ w'.ownsRow w.heap.size 32 1 u (part qs off lim).length (sndC (part qs off lim))) := by
     intro L ad c hL had
     have hsl:(sndC (part qs off lim)).length = (part qs off lim).length := by simp [sndC]
     have := cloneRowsM (sndC (part qs off lim)) ad c w ?_ ?_ ?_ (by rw [hsl,HPl.out]; omega)
     · rw [hsl,<- hL] at this
       rw [<- hL]; exact this
     · intro j u hj
       have hjl := getElem?_lt hj
       rw [hsl] at hjl
       rw [had (by omega)]
       have e1:(sndC qs)[off + j]? = some u := by
         unfold sndC part at hj
         rw [List.getElem?_map,List.getElem?_take,List.getElem?_drop] at hj
         unfold sndC
         rw [List.getElem?_map]
         split at hj
         · exact hj
         · cases hj
       rw [<- ht,List.getElem?_take] at e1
       have e2:(⟨g,off,none⟩:Addr).add j = ⟨g,off + j,none⟩ := by unfold Addr.add; split <;> simp_all
       rw [e2,blk_cell hg]
       split at e1
       · simpa using e1
       · cases e1
     · intro hne
       rw [had (by rw [hL,<- hsl]; intro h; exact hne (List.length_eq_zero_iff.1 h))]
       exact hgz
     · intro u hu
       unfold sndC part at hu
       obtain ⟨q,hq,rfl⟩ := List.mem_map.1 hu
       obtain ⟨a,m,c,h⟩ := h1 q (List.mem_of_mem_drop (List.mem_of_mem_take hq))
       rw [h]; rfl
   generalize hpost:(fun (e:Ending) (w':World)=>Below w.heap.size w w' /\ ∃ u,e = .returned u /\ w'.ownsRow w.heap.size 32 1 u (part qs off lim).length (sndC (part qs off lim))) = Post at *
   have HPost:Hid (∀ e w',Post e w' -> ∃ a m c,e = .returned (.slice a m c)) := fun e w' h=>by
     rw [<- hpost] at h
     obtain ⟨_,u,rfl,ho⟩ := h
     obtain ⟨a,m,c,rfl⟩ := own_slice ho
     exact ⟨a,m,c,rfl⟩
   clear hpost h1 hown hs ht hg
   by_cases hoff:off < qs.length
   · by_cases hlim:lim < qs.length - off
     all_goals
       go_enter Tryz.func115,Tryz.ntmps115
       go_wp2_with fail
     all_goals
       refine (unhide HCl _ _ _ (by rw [HPl.out]; omega) (by intro h; first | rfl | (exfalso; omega) | (congr 1; omega))).mono ?_
       intro e w1 hp
       obtain ⟨a,m,c,rfl⟩ := HPost.out _ _ hp
       have HP1 := hide hp
       clear hp
       go_wp2_with fail
       exact HP1.out
   · have hcl:∀ x:Nat,x = 0 \/ 0 < x := fun x=>by omega
     rcases hcl lim with rfl | hlim
     all_goals
       go_enter Tryz.func115,Tryz.ntmps115
       go_wp2_with fail
     all_goals
       refine (unhide HCl _ _ _ (by rw [HPl.out]; omega) (by intro h; first | rfl | (exfalso; omega) | (congr 1; omega))).mono ?_
       intro e w1 hp
       obtain ⟨a,m,c,rfl⟩ := HPost.out _ _ hp
       have HP1 := hide hp
       clear hp
       go_wp2_with fail
       exact HP1.out
end Go.Proofs.YtojdpjpldokjmaaGreatDoor
namespace Go.Proofs.YtojdpjpldokjmaaGreatDoor.Pl
theorem cmpI_range (x y:Int) : -1 <= Lib.compareInt x y /\ Lib.compareInt x y <= 1 := by
 unfold Lib.compareInt; split
 · decide
 · split <;> decide
theorem cmpB_range:∀ (a b:List UInt8),-1 <= Lib.compareBytes a b /\ Lib.compareBytes a b <= 1
 | [],[]=>by simp [Lib.compareBytes]
 | [],_ :: _=>by simp [Lib.compareBytes]
 | _ :: _,[]=>by simp [Lib.compareBytes]
 | a :: a',b :: b' => by
   unfold Lib.compareBytes
   have := cmpB_range a' b'
   split
   · decide
   · split
     · decide
     · exact this
theorem order_range (a b:V) : -1 <= order a b /\ order a b <= 1 := by
 unfold order
 split
 · exact cmpI_range _ _
 split
 · exact cmpB_range _ _
 · exact cmpI_range _ _
theorem cmpRanks_at {a b:List V} {ds:List Bool} {i:Nat} {x y:V} {d:Bool} (ha:a.drop i = x :: a.drop (i + 1)) (hb:b.drop i = y :: b.drop (i + 1)) (hd:ds.drop i = d :: ds.drop (i + 1)) :
   cmpRanks (a.drop i) (b.drop i) (ds.drop i) = if order x y = 0 then cmpRanks (a.drop (i + 1)) (b.drop (i + 1)) (ds.drop (i + 1)) else if d = true then - order x y else order x y := by
 rw [ha,hb,hd,cmpRanks]
end Go.Proofs.YtojdpjpldokjmaaGreatDoor.Pl
namespace Go.Proofs.YtojdpjpldokjmaaGreatDoor
open Go.RowKit Go.Deep
set_option linter.unusedSimpArgs false
set_option linter.unusedVariables false
theorem compareRanksM (X:MachLib) (a b:List Pl.V) (ks:List Key) (av bv kv:Value) (w:World) (ha:RowsW w w.heap.size 3 vC a av) (hb:RowsW w w.heap.size 3 vC b bv) (hk:RowsW w w.heap.size 2 keyC ks kv) (hks:∀ k ∈ ks,∃ p,k.2.1 = .pointer p) (hal:a.length = ks.length) (hbl:b.length = ks.length) (hl:ks.length <= 1000) :
   Calls Tryz.prog 176 #[av,bv,kv] w fun e w' => e = .returned (.int .i64 (Pl.cmpRanks a b (ks.map (fun k=>k.2.2)))) /\ Below w.heap.size w w' := by
 obtain ⟨aa,ac,rfl⟩ := ha.slice
 obtain ⟨ba,bc,rfl⟩ := hb.slice
 obtain ⟨ka,kc,rfl⟩ := hk.slice
 have HA := hide ha
 have HB := hide hb
 have HK := hide hk
 have HKs := hide hks
 have HAl := hide hal
 have HBl := hide hbl
 have HOr := hide (orderM X)
 generalize ho:Pl.cmpRanks a b (ks.map (fun k=>k.2.2)) = out
 have HO := hide ho
 clear ha hb hk hks ho hal hbl
 go_enter Tryz.func176,Tryz.ntmps176
 go_wp2_with fail
 go_loopw [12] (fun s12 wr=>∃ i:Nat,i <= ks.length /\ s12 = .int .i64 i /\ Hid (Below w.heap.size w wr) /\ Hid (out = Pl.cmpRanks (a.drop i) (b.drop i) ((ks.map (fun k=>k.2.2)).drop i))) (fun a _=>ks.length - (intOf a).toNat)
 case atStart=>exact ⟨0,Nat.zero_le _,rfl,Below.refl _ _,HO.out.symm⟩
 case round =>
   obtain ⟨i,hi,rfl,HBe,HOu⟩ := hrel
   have hbz := HBe.out.size
   by_cases hlt:i < ks.length
   · have hia:i < a.length := by have := HAl.out; omega
     have hib:i < b.length := by have := HBl.out; omega
     have hki:ks[i]? = some ks[i] := List.getElem?_eq_getElem hlt
     have hmem := List.getElem_mem hlt
     have HDk:Hid ((ks.map (fun k=>k.2.2)).drop i = ks[i].2.2 :: (ks.map (fun k=>k.2.2)).drop (i + 1)) := by
       unfold Hid
       rw [List.drop_eq_getElem_cons (by simpa using hlt)]
       simp
     have HDa:Hid (a.drop i = a.getD i Pl.nul :: a.drop (i + 1)) := by
       unfold Hid
       rw [List.drop_eq_getElem_cons hia]
       simp [List.getD,List.getElem?_eq_getElem hia]
     have HDb:Hid (b.drop i = b.getD i Pl.nul :: b.drop (i + 1)) := by
       unfold Hid
       rw [List.drop_eq_getElem_cons hib]
       simp [List.getD,List.getElem?_eq_getElem hib]
     generalize ks[i] = k at *
     obtain ⟨kt,kp,kd⟩ := k
     obtain ⟨pa,hpa⟩:∃ p,kp = .pointer p := HKs.out _ hmem
     subst hpa
     obtain ⟨g1,c1,he1,hg1,x0,x1,x2⟩ := (HA.out.keep (fun k hk=>HBe.out.block k hk)).val hia
     cases he1
     obtain ⟨g2,c2,he2,hg2,y0,y1,y2⟩ := (HB.out.keep (fun k hk=>HBe.out.block k hk)).val hib
     cases he2
     obtain ⟨g3,c3,he3,hg3,z0,z1⟩ := (HK.out.keep (fun k hk=>HBe.out.block k hk)).key hki
     cases he3
     simp only at z0 z1
     have hg1z:g1 < wr.heap.size := by omega
     have hg2z:g2 < wr.heap.size := by omega
     have hg3z:g3 < wr.heap.size := by omega
     have HStep := hide (Pl.cmpRanks_at HDa.out HDb.out HDk.out)
     have hia':((i:Nat):Int) < ((a.length:Nat):Int) := by omega
     have hib':((i:Nat):Int) < ((b.length:Nat):Int) := by omega
     generalize a.getD i Pl.nul = x at *
     generalize b.getD i Pl.nul = y at *
     have HOx := hide (unhide HOr x y)
     have hrg := Pl.order_range x y
     obtain ⟨c,hc⟩:∃ c,Pl.order x y = c := ⟨_,rfl⟩
     rw [hc] at HOx HStep hrg
     unfold vV at HOx
     clear hmem hc
     by_cases hc0:c = 0
     · subst hc0
       have HOu2:Hid (out = Pl.cmpRanks (a.drop (i + 1)) (b.drop (i + 1)) ((ks.map (fun k=>k.2.2)).drop (i + 1))) := by
         unfold Hid; rw [HOu.out,HStep.out,if_pos rfl]
       go_wp2_with fail
       go_region_with (go_at_call 230; refine (unhide HOx _).mono ?_; rintro e w9 ⟨rfl,hb9⟩; obtain ⟨c9,f9⟩ := bcell hb9; have HB9 := hide hb9; have q9:wr.heap.size < w9.heap.size := (by have := hb9.size; (try simp [World.drew] at this); omega); clear hb9)
       all_goals
         go_wp2_with fail
         go_roundw
         case rel=>exact ⟨i + 1,by omega,by go_num,((HBe.out.alloc hbz _).drew).trans (HB9.out.mono (by simp [World.drew]; omega)),HOu2⟩
         case measure=>simp [intOf]; omega
     · have hne:(c != 0) = true := by simpa using hc0
       cases kd with
       | true =>
         have HE:Hid (out = -c) := by unfold Hid; rw [HOu.out,HStep.out,if_neg hc0,if_pos rfl]
         have hw:wrap64 (-c) = -c := by unfold wrap64; omega
         go_wp2_with fail
         go_region_with (go_at_call 230; refine (unhide HOx _).mono ?_; rintro e w9 ⟨rfl,hb9⟩; obtain ⟨c9,f9⟩ := bcell hb9; have HB9 := hide hb9; have q9:wr.heap.size < w9.heap.size := (by have := hb9.size; (try simp [World.drew] at this); omega); clear hb9)
         all_goals
           go_wp2_with fail
           go_ret
           exact ⟨ret_int HE.out.symm,((HBe.out.alloc hbz _).drew).trans (HB9.out.mono (by simp [World.drew]; omega))⟩
       | false =>
         have HE:Hid (out = c) := by unfold Hid; rw [HOu.out,HStep.out,if_neg hc0,if_neg (fun h=>by cases h)]
         go_wp2_with fail
         go_region_with (go_at_call 230; refine (unhide HOx _).mono ?_; rintro e w9 ⟨rfl,hb9⟩; obtain ⟨c9,f9⟩ := bcell hb9; have HB9 := hide hb9; have q9:wr.heap.size < w9.heap.size := (by have := hb9.size; (try simp [World.drew] at this); omega); clear hb9)
         all_goals
           go_wp2_with fail
           go_ret
           exact ⟨ret_int HE.out.symm,((HBe.out.alloc hbz _).drew).trans (HB9.out.mono (by simp [World.drew]; omega))⟩
   · obtain rfl:i = ks.length := by omega
     have HE:Hid (out = 0) := by
       unfold Hid
       rw [HOu.out,List.drop_eq_nil_of_le (by have := HAl.out; omega)]
       rfl
     go_wp2_with fail
     go_ret
     exact ⟨ret_int HE.out.symm,HBe.out⟩
end Go.Proofs.YtojdpjpldokjmaaGreatDoor
namespace Go.Proofs.YtojdpjpldokjmaaGreatDoor.Pl
end Go.Proofs.YtojdpjpldokjmaaGreatDoor.Pl
namespace Go.Proofs.YtojdpjpldokjmaaGreatDoor
open Go.RowKit Go.Deep
set_option linter.unusedSimpArgs false
set_option linter.unusedVariables false
structure Rk where
 ranks:List Pl.V
 rv:Value
 row:Value
def rkC (x:Rk):List Value := [x.rv,x.row]
def rksC (xs:List Rk):List Value := xs.flatMap rkC
theorem rksC_len (xs:List Rk):(rksC xs).length = xs.length * 2 := by
 induction xs with
 | nil=>rfl
 | cons a l ih=>show (rkC a ++ rksC l).length = _; rw [List.length_append,ih]; simp [rkC]; omega
theorem rksC_app (a b:List Rk):rksC (a ++ b) = rksC a ++ rksC b := by simp [rksC]
theorem rksC_at {xs:List Rk} {i:Nat} {x:Rk} (h:xs[i]? = some x):(rksC xs)[i * 2]? = some x.rv /\ (rksC xs)[i * 2 + 1]? = some x.row :=
 ⟨flat_at rkC 2 (fun _=>rfl) xs i 0 x x.rv h rfl,flat_at rkC 2 (fun _=>rfl) xs i 1 x x.row h rfl⟩
theorem rksC_set (xs:List Rk) (i:Nat) (x:Rk) (hi:i < xs.length):((rksC xs).set (i * 2) x.rv).set (i * 2 + 1) x.row = rksC (xs.set i x) := by
 have e:xs = xs.take i ++ xs[i] :: xs.drop (i + 1) := by rw [<- List.drop_eq_getElem_cons hi,List.take_append_drop]
 have hl:(xs.take i).length = i := by simp; omega
 generalize xs.take i = A at *
 generalize xs.drop (i + 1) = B at *
 generalize xs[i] = y at *
 subst e
 have h1:∀ z:Rk,rksC (A ++ z :: B) = rksC A ++ (rkC z ++ rksC B) := fun z=>by
   rw [rksC_app]
   show rksC A ++ rksC ([z] ++ B) = _
   rw [rksC_app]
   simp [rksC]
 rw [show (A ++ y :: B).set i x = A ++ x :: B by rw [List.set_append_right _ _ (by omega),hl]; simp]
 rw [h1,h1]
 have hA:(rksC A).length = i * 2 := by rw [rksC_len,hl]
 rw [List.set_append_right _ _ (by omega),List.set_append_right _ _ (by omega),hA]
 rw [show i * 2 - i * 2 = 0 by omega,show i * 2 + 1 - i * 2 = 1 by omega]
 rfl
structure RkW (w:World) (base:Nat) (v:Value) (xs:List Rk):Prop where
 own:w.ownsRow base 288 2 v xs.length (rksC xs)
 each:∀ x ∈ xs,w.ownsRow base 34 3 x.rv x.ranks.length (rowC x.ranks) /\ ∃ a m c,x.row = .slice a m c
theorem RkW.below {w w':World} {base:Nat} {v:Value} {xs:List Rk} (h:RkW w base v xs) (hb:Below w.heap.size w w'):RkW w' base v xs := ⟨own_below hb h.own,fun x hx=>⟨own_below hb (h.each x hx).1,(h.each x hx).2⟩⟩
theorem RkW.drewN {w:World} {base:Nat} {v:Value} {xs:List Rk} (h:RkW w base v xs) (n:Nat):RkW (w.drewN n) base v xs := ⟨h.own,fun x hx=>h.each x hx⟩
theorem RkW.oth {w:World} {base g cap n:Nat} {xs:List Rk} (h:RkW w base (.slice (some ⟨g,0,none⟩) n cap) xs) {u:Value} {k:Nat} {ys:List Value} (ho:w.ownsRow base 34 3 u k ys) (o1 o2:Nat) (v1 v2:Value):((w.setCell ⟨g,o1,none⟩ v1).setCell ⟨g,o2,none⟩ v2).ownsRow base 34 3 u k ys := by
 have hg:(Value.slice (some ⟨g,0,none⟩) n cap).ownBlock = some g := rfl
 obtain ⟨C,m,hc⟩ := own_ty h.own hg
 refine own_at ho (fun b hb=>?_)
 obtain ⟨C',m',hc'⟩ := own_ty ho hb
 have:b ≠ g := ty_ne hc' hc (by decide)
 rw [Below.heap_setCell _ _ _ _ this,Below.heap_setCell _ _ _ _ this]
theorem RkW.set {w:World} {base g cap:Nat} {xs:List Rk} {n i:Nat} {x:Rk} (h:RkW w base (.slice (some ⟨g,0,none⟩) n cap) xs) (hi:i < xs.length) (hx:w.ownsRow base 34 3 x.rv x.ranks.length (rowC x.ranks) /\ ∃ a m c,x.row = .slice a m c) :
   RkW ((w.setCell ⟨g,i * 2,none⟩ x.rv).setCell ⟨g,i * 2 + 1,none⟩ x.row) base (.slice (some ⟨g,0,none⟩) n cap) (xs.set i x) := by
 have hg:(Value.slice (some ⟨g,0,none⟩) n cap).ownBlock = some g := rfl
 obtain ⟨C,m,hc⟩ := own_ty h.own hg
 have hoth:∀ {u:Value} {k:Nat} {ys:List Value},w.ownsRow base 34 3 u k ys -> ((w.setCell ⟨g,i * 2,none⟩ x.rv).setCell ⟨g,i * 2 + 1,none⟩ x.row).ownsRow base 34 3 u k ys := fun {u k ys} ho=>own_at ho (fun b hb=>by
   obtain ⟨C',m',hc'⟩ := own_ty ho hb
   have:b ≠ g := ty_ne hc' hc (by decide)
   rw [Below.heap_setCell _ _ _ _ this,Below.heap_setCell _ _ _ _ this])
 refine ⟨?_,fun y hy=>?_⟩
 · have h1 := own_set h.own hg (i := i * 2) (by omega) x.rv
   have h2 := own_set h1 hg (i := i * 2 + 1) (by omega) x.row
   rw [rksC_set xs i x hi] at h2
   simpa using h2
 · rcases List.mem_or_eq_of_mem_set hy with hy | rfl
   · exact ⟨hoth (h.each y hy).1,(h.each y hy).2⟩
   · exact ⟨hoth hx.1,hx.2⟩
def cmpFn (ob:Nat):Value := .func (.func 175) #[] #[.pointer (some ⟨ob,0,none⟩)]
structure CmpIn (w:World) (ob:Nat) (ks:List Key):Prop where
 box:∃ kv,w.heap[ob]? = some (.cells #[kv] 227) /\ RowsW w ob 2 keyC ks kv
 ptr:∀ k ∈ ks,∃ p,k.2.1 = .pointer p
 len:ks.length <= 1000
theorem CmpIn.keep {w w':World} {ob:Nat} {ks:List Key} (h:CmpIn w ob ks) (hk:∀ k,k <= ob -> w'.heap[k]? = w.heap[k]?):CmpIn w' ob ks := by
 obtain ⟨⟨kv,h1,h2⟩,h3,h4⟩ := h
 exact ⟨⟨kv,(hk ob (Nat.le_refl _)).trans h1,h2.keep (fun k hk' => hk k (by omega))⟩,h3,h4⟩
def dsOf (ks:List Key):List Bool := ks.map (fun k=>k.2.2)
theorem cmpFnM (X:MachLib) (x y:Rk) (ob base:Nat) (ks:List Key) (w:World) (hc:CmpIn w ob ks) (hx:w.ownsRow base 34 3 x.rv x.ranks.length (rowC x.ranks) /\ ∃ a m c,x.row = .slice a m c) (hy:w.ownsRow base 34 3 y.rv y.ranks.length (rowC y.ranks) /\ ∃ a m c,y.row = .slice a m c) (hxl:x.ranks.length = ks.length) (hyl:y.ranks.length = ks.length) :
   Calls Tryz.prog 175 #[.agg #[x.rv,x.row],.agg #[y.rv,y.row],.pointer (some ⟨ob,0,none⟩)] w fun e w' => e = .returned (.int .i64 (Pl.cmpRanks x.ranks y.ranks (dsOf ks))) /\ Below w.heap.size w w' := by
 obtain ⟨kv,hb,hk⟩ := hc.box
 obtain ⟨xa,xn,xc,hxr⟩ := own_slice hx.1
 obtain ⟨ya,yn,yc,hyr⟩ := own_slice hy.1
 obtain ⟨ra,rm,rc,hrr⟩ := hx.2
 obtain ⟨sa,sm,sc,hss⟩ := hy.2
 obtain ⟨ka,kc,rfl⟩ := hk.slice
 have hbz := lt_of_blk hb
 have b0 := blk_cell hb 0
 simp at b0
 have hB:Below w.heap.size w ((w.alloc (.cells #[x.rv,x.row] 288)).alloc (.cells #[y.rv,y.row] 288)) := ((Below.refl _ _).alloc (Nat.le_refl _) _).alloc (by simp) _
 have HC := hide (compareRanksM X x.ranks y.ranks ks x.rv y.rv _ _ ((own_rows (f := vC) (fun _=>rfl) hx.1 (Nat.le_refl _)).below hB) ((own_rows (f := vC) (fun _=>rfl) hy.1 (Nat.le_refl _)).below hB) ((hk.more (by omega)).below hB) hc.ptr hxl hyl hc.len)
 have HB := hide hB
 rw [hxr,hyr,hrr,hss] at HC HB
 rw [hxr,hyr,hrr,hss]
 clear hb hk hc hx hy hxl hyl hB
 unfold dsOf
 go_enter Tryz.func175,Tryz.ntmps175
 go_wp2_with fail
 refine (unhide HC).mono ?_
 rintro e w1 ⟨rfl,hb1⟩
 have HB1 := hide (HB.out.trans (hb1.mono HB.out.size))
 clear hb1
 go_wp2_with fail
 go_ret
 exact ⟨rfl,HB1.out⟩
def leT (ks:List Key) (x y:Rk):Bool := decide (Pl.cmpT (dsOf ks) x.ranks y.ranks <= 0)
theorem leT_ord (ks:List Key):Pl.Ord (leT ks) := by
 have h := (Pl.tri_cmpT (dsOf ks)).ord
 exact ⟨fun a b=>h.total a.ranks b.ranks,fun a b c=>h.trans a.ranks b.ranks c.ranks⟩
def RkOk (ks:List Key) (tys:List Int) (x:Rk):Prop := x.ranks.length = ks.length /\ Pl.ranksOf tys x.ranks
theorem cmp_lt {ks:List Key} {tys:List Int} (ht:tys.length = ks.length) {x y:Rk} (hx:RkOk ks tys x) (hy:RkOk ks tys y):(Pl.cmpRanks x.ranks y.ranks (dsOf ks) < 0) ↔ leT ks y x = false := by
 rw [Pl.cmp_cmpT tys (dsOf ks) x.ranks y.ranks (by simp [dsOf,ht]) hx.2 hy.2]
 have h := (Pl.tri_cmpT (dsOf ks)).anti x.ranks y.ranks
 unfold leT
 rw [decide_eq_false_iff_not]
 omega
structure InsI (w wr:World) (ks:List Key) (tys:List Int) (ob base g cap n:Nat) (A S R:List Rk) (x:Rk) (j:Nat) (p q:List Rk):Prop where
 rk:RkW wr base (.slice (some ⟨g,0,none⟩) n cap) (A ++ (p ++ x :: (q ++ R)))
 cmp:CmpIn wr ob ks
 keep:Keeps g w wr
 len:A.length + p.length = j
 all:(A ++ (p ++ x :: (q ++ R))).length = n
 spl:p ++ q = S
 hi:∀ y ∈ q,leT ks y x = false
 ok:∀ y ∈ A ++ (p ++ x :: (q ++ R)),RkOk ks tys y
theorem InsI.stop {w wr:World} {ks:List Key} {tys:List Int} {ob base g cap n:Nat} {A S R:List Rk} {x:Rk} {j:Nat} {p q:List Rk} (h:InsI w wr ks tys ob base g cap n A S R x j p q) (hs:S.Pairwise (fun a b=>leT ks a b = true)) (hp:p = [] \/ ∃ y p',p = p' ++ [y] /\ leT ks y x = true):RkW wr base (.slice (some ⟨g,0,none⟩) n cap) (A ++ (Pl.mrg (leT ks) S [x] ++ R)) := by
 have e:Pl.mrg (leT ks) S [x] = p ++ x :: q := by
   rw [<- h.spl] at hs ⊢
   exact Pl.ins_done (leT_ord ks) hs hp h.hi
 rw [e]
 have := h.rk
 simpa using this
theorem InsI.swap {w wr w2:World} {ks:List Key} {tys:List Int} {ob base g cap n:Nat} {A S R:List Rk} {x y:Rk} {j:Nat} {p q:List Rk} (h:InsI w wr ks tys ob base g cap n A S R x (j + 1) (p ++ [y]) q) (hy:leT ks y x = false) (hw:RkW w2 base (.slice (some ⟨g,0,none⟩) n cap) (((A ++ ((p ++ [y]) ++ x :: (q ++ R))).set (j + 1) y).set j x)) (hc:CmpIn w2 ob ks) (hk:Keeps g w w2):InsI w w2 ks tys ob base g cap n A S R x j p (y :: q) := by
 have hl:A.length + p.length = j := by have := h.len; simp at this; omega
 have e:((A ++ ((p ++ [y]) ++ x :: (q ++ R))).set (j + 1) y).set j x = A ++ (p ++ x :: (y :: q ++ R)) := by
   have e0:A ++ ((p ++ [y]) ++ x :: (q ++ R)) = (A ++ p) ++ y :: x :: (q ++ R) := by simp
   have hl2:(A ++ p).length = j := by simp; omega
   rw [e0,List.set_append_right _ _ (by omega),hl2,show j + 1 - j = 1 by omega]
   rw [List.set_append_right _ _ (by omega),hl2,show j - j = 0 by omega]
   simp
 rw [e] at hw
 refine ⟨hw,hc,hk,hl,?_,?_,?_,?_⟩
 · have := h.all; simp at this ⊢; omega
 · have := h.spl; simpa using this
 · intro z hz
   rcases List.mem_cons.1 hz with rfl | hz
   · exact hy
   · exact h.hi z hz
 · intro z hz
   apply h.ok z
   simp at hz ⊢
   rcases hz with hz | hz | hz | hz | hz | hz <;> simp [hz]
structure BelOf (w:World) where
 val:World
 bel:Below w.heap.size w val
abbrev BelOf.first (w:World):Inhabited (BelOf w) := ⟨⟨w,Below.refl _ _⟩⟩
theorem wp_region_bel {P:Program} {id:Nat} {Q:Exit -> Act -> World -> Prop} {a:Act} {w:World} {l:List Oper} (hm:P.follows .mixedOrders = true) (hB:Region.lexB .any l.toArray = true)
   (h:wpQuiet P l.toArray (fun w' => ∃ p:BelOf w,w' = p.val) (fun a' => ∀ w',(∃ p:BelOf w,w' = p.val) -> Q .normal a' w') l a):(Code.region id l.toArray true).wp P Q a w :=
 wp_region_quiet (C := fun w' => ∃ p:BelOf w,w' = p.val) hm hB ⟨⟨w.drew,(Below.refl _ _).drew⟩,rfl⟩ (by simpa using h)
theorem BelOf.cell {w:World} {b o:Nat} {v:Value} (hb:b < w.heap.size) (h:w.cell? ⟨b,o,none⟩ = some v) (p:BelOf w):p.val.cell? ⟨b,o,none⟩ = some v := (World.cell?_of_block (p.bel.block b hb)).trans h
def insAt (ks:List Key) (xs:List Rk) (a i:Nat):List Rk := xs.take a ++ (Pl.isort (leT ks) ((xs.drop a).take (i - a)) ++ xs.drop i)
theorem insAt_start (ks:List Key) (xs:List Rk) (a:Nat):insAt ks xs a (a + 1) = xs /\ insAt ks xs a a = xs := by
 unfold insAt
 constructor
 · rw [show a + 1 - a = 1 by omega]
   cases h:xs.drop a with
   | nil =>
     have:xs.drop (a + 1) = [] := by rw [<- List.drop_drop,h]; rfl
     rw [this]
     have e := List.take_append_drop a xs
     rw [h] at e
     simpa [Pl.isort] using e
   | cons y l =>
     have:xs.drop (a + 1) = l := by rw [<- List.drop_drop,h]; rfl
     rw [this]
     have e := List.take_append_drop a xs
     rw [h] at e
     simpa [Pl.isort,Pl.ins] using e
 · simp [Pl.isort]
theorem insAt_step {ks:List Key} {xs:List Rk} {a i:Nat} {x:Rk} (ha:a < i) (hx:xs[i]? = some x):insAt ks xs a (i + 1) = xs.take a ++ (Pl.mrg (leT ks) (Pl.isort (leT ks) ((xs.drop a).take (i - a))) [x] ++ xs.drop (i + 1)) := by
 unfold insAt
 have e:(xs.drop a).take (i + 1 - a) = (xs.drop a).take (i - a) ++ [x] := by
   rw [show i + 1 - a = (i - a) + 1 by omega,List.take_add_one,List.getElem?_drop,show a + (i - a) = i by omega,hx]
   rfl
 rw [e,Pl.isort_append (leT_ord ks)]
 rfl
theorem insM (X:MachLib) (ks:List Key) (tys:List Int) (htl:tys.length = ks.length) (ob base g cap a b n:Nat) (xs:List Rk) (w:World) (hab:a <= b) (hbn:b <= n) (hxn:xs.length = n) (hn:n <= 1048576) (hW:RkW w base (.slice (some ⟨g,0,none⟩) n cap) xs) (hC:CmpIn w ob ks) (hog:ob < g) (hok:∀ x ∈ xs,RkOk ks tys x) :
   Calls Tryz.prog 258 #[.slice (some ⟨g,0,none⟩) n cap,.int .i64 a,.int .i64 b,cmpFn ob] w fun e w' => e = .returned (.tuple #[]) /\ RkW w' base (.slice (some ⟨g,0,none⟩) n cap) (insAt ks xs a b) /\ Keeps g w w' := by
 have HW := hide hW
 have HC := hide hC
 have HOk := hide hok
 have HXn := hide hxn
 have hw1:wrap64 ((a:Int) + 1) = a + 1 := by unfold wrap64; omega
 unfold cmpFn
 have hent:∀ (a:Array Value) (w:World),(callFunc 175 a).run Tryz.prog w = .ok (.enter 175 a) w := fun a w=>by go_simp
 clear hW hC hok hxn
 go_enter Tryz.func258,Tryz.ntmps258
 go_wp2_with fail
 go_loopw [8] (fun s8 wr=>∃ i:Nat,s8 = .int .i64 i /\ a < i /\ i <= n + 1 /\ (i <= b \/ i = a + 1) /\ Hid (RkW wr base (.slice (some ⟨g,0,none⟩) n cap) (insAt ks xs a i) /\ Keeps g w wr)) (fun s _=>n + 1 - (intOf s).toNat)
 case atStart=>exact ⟨a + 1,by go_num,by omega,by omega,.inr rfl,by rw [(insAt_start ks xs a).1]; exact HW.out,Keeps.refl _ _⟩
 case round =>
   obtain ⟨i,rfl,hai,hin,hib,HI⟩ := hrel
   by_cases hlt:i < b
   · have hil:i < xs.length := by have := HXn.out; omega
     have hxi:xs[i]? = some xs[i] := List.getElem?_eq_getElem hil
     have hxd:xs.drop i = xs[i] :: xs.drop (i + 1) := List.drop_eq_getElem_cons hil
     have HStep := hide (insAt_step (ks := ks) hai hxi)
     generalize xs[i] = x at *
     have hSl:(Pl.isort (leT ks) ((xs.drop a).take (i - a))).length = i - a := by rw [Pl.isort_len]; simp; omega
     have hSs := Pl.isort_sorted (leT_ord ks) ((xs.drop a).take (i - a))
     have hSm:∀ y ∈ Pl.isort (leT ks) ((xs.drop a).take (i - a)),y ∈ xs := fun y hy=>List.mem_of_mem_drop (List.mem_of_mem_take (Pl.isort_mem hy))
     have hAl:(xs.take a).length = a := by simp; omega
     have hI0:InsI w wr ks tys ob base g cap n (xs.take a) (Pl.isort (leT ks) ((xs.drop a).take (i - a))) (xs.drop (i + 1)) x i (Pl.isort (leT ks) ((xs.drop a).take (i - a))) [] := by
       have h1 := HI.out.1
       unfold insAt at h1
       rw [hxd] at h1
       refine ⟨by simpa using h1,HC.out.keep (fun k hk=>HI.out.2.block k (by have := HC.out.box; obtain ⟨kv,hb,_⟩ := this; have := lt_of_blk hb; omega) (by omega)),HI.out.2,by rw [hAl,hSl]; omega,?_,by simp,by simp,fun y hy=>HOk.out y ?_⟩
       · have := HXn.out
         simp only [List.length_append,List.length_cons,hAl,hSl,List.length_drop]
         simp; omega
       · rcases List.mem_append.1 hy with hy | hy
         · exact List.mem_of_mem_take hy
         · rcases List.mem_append.1 hy with hy | hy
           · exact hSm y hy
           · rcases List.mem_cons.1 hy with rfl | hy
             · exact List.mem_iff_getElem?.2 ⟨i,hxi⟩
             · exact List.mem_of_mem_drop (by simpa using hy)
     have HI0 := hide hI0
     have HSs := hide hSs
     clear hI0 hSs hSm hxd hxi hil
     generalize Pl.isort (leT ks) ((xs.drop a).take (i - a)) = S at *
     have HStep':Hid (insAt ks xs a (i + 1) = xs.take a ++ (Pl.mrg (leT ks) S [x] ++ xs.drop (i + 1))) := HStep.out
     generalize hAg:xs.take a = A at *
     generalize hRg:xs.drop (i + 1) = R at *
     clear HStep hAg hRg
     obtain ⟨wo,rfl⟩:∃ wo:World,wo = wr := ⟨_,rfl⟩
     go_wp2_with fail
     go_loopw [9] (fun s9 wr=>∃ (j:Nat) (p q:List Rk),s9 = .int .i64 j /\ a <= j /\ j <= i /\ Hid (InsI w wr ks tys ob base g cap n A S R x j p q)) (fun s _=>(intOf s).toNat)
     case atStart=>exact ⟨i,_,_,rfl,by omega,Nat.le_refl _,HI0⟩
     case round =>
       obtain ⟨j,p,q,rfl,haj,hji,HJ⟩ := hrel
       clear HI0
       by_cases hja:a < j
       · obtain ⟨m,rfl⟩:∃ m,j = m + 1 := ⟨j - 1,by omega⟩
         obtain ⟨y,p',rfl⟩:∃ y p',p = p' ++ [y] := by
           have hpl := HJ.out.len
           rcases List.eq_nil_or_concat p with h | ⟨p',y,h⟩
           · subst h; simp at hpl; omega
           · exact ⟨y,p',by rw [h]; simp⟩
         obtain ⟨hrk,hcm,hkp,hln,hall,hspl,hhi,hokk⟩ := HJ.out
         have hpl:A.length + p'.length = m := by simp at hln; omega
         have hgm:(A ++ (p' ++ [y] ++ x :: (q ++ R)))[m]? = some y := by
           have e0:A ++ ((p' ++ [y]) ++ x :: (q ++ R)) = (A ++ p') ++ y :: x :: (q ++ R) := by simp
           rw [e0,List.getElem?_append_right (by simp; omega)]
           simp [hpl]
         have hgm1:(A ++ (p' ++ [y] ++ x :: (q ++ R)))[m + 1]? = some x := by
           have e0:A ++ ((p' ++ [y]) ++ x :: (q ++ R)) = (A ++ p') ++ y :: x :: (q ++ R) := by simp
           rw [e0,List.getElem?_append_right (by simp; omega)]
           simp [show m + 1 - (A.length + p'.length) = 1 by omega]
         have hmy:y ∈ A ++ (p' ++ [y] ++ x :: (q ++ R)) := List.mem_iff_getElem?.2 ⟨m,hgm⟩
         have hmx:x ∈ A ++ (p' ++ [y] ++ x :: (q ++ R)) := List.mem_iff_getElem?.2 ⟨m + 1,hgm1⟩
         obtain ⟨cur,hgb,hcur⟩:∃ cur,wr.heap[g]? = some (.cells cur 288 (0,0)) /\ ∀ k u,(rksC (A ++ (p' ++ [y] ++ x :: (q ++ R))))[k]? = some u -> cur[k]? = some u := by
           rcases hrk.own.2 with ⟨h,_⟩ | ⟨g',cap',cur,hv,_,hh,_,_,_,ht⟩
           · cases h
           · cases hv
             refine ⟨cur,hh,fun k u hk=>?_⟩
             rw [<- ht,List.getElem?_take] at hk
             split at hk
             · simpa using hk
             · cases hk
         have hgz := lt_of_blk hgb
         have y0:wr.cell? ⟨g,m * 2,none⟩ = some y.rv := (blk_cell hgb _).trans (hcur _ _ (rksC_at hgm).1)
         have y1:wr.cell? ⟨g,m * 2 + 1,none⟩ = some y.row := (blk_cell hgb _).trans (hcur _ _ (rksC_at hgm).2)
         have x0:wr.cell? ⟨g,(m + 1) * 2,none⟩ = some x.rv := (blk_cell hgb _).trans (hcur _ _ (rksC_at hgm1).1)
         have x1:wr.cell? ⟨g,(m + 1) * 2 + 1,none⟩ = some x.row := (blk_cell hgb _).trans (hcur _ _ (rksC_at hgm1).2)
         have hfz := blk_frozen hgb
         have hex := hrk.each x hmx
         have hey := hrk.each y hmy
         have hjI:((a:Nat):Int) < ((m:Nat):Int) + 1 := by omega
         have hjI2:((a:Nat):Int) < (((m + 1:Nat)):Int) := by omega
         have hclt := cmp_lt htl (hokk x hmx) (hokk y hmy)
         have hmn:m + 1 < n := by rw [<- hall]; exact getElem?_lt hgm1
         clear hgm hgm1 hgb hcur
         obtain ⟨xa,xn,xc,hxr⟩ := own_slice hex.1
         obtain ⟨ya,yn,yc,hyr⟩ := own_slice hey.1
         obtain ⟨xra,xrm,xrc,hxw⟩ := hex.2
         obtain ⟨yra,yrm,yrc,hyw⟩ := hey.2
         have iB:Inhabited (BelOf wr) := BelOf.first wr
         have HCmp:Hid (∀ p:BelOf wr,Calls Tryz.prog 175 #[.agg #[x.rv,x.row],.agg #[y.rv,y.row],.pointer (some ⟨ob,0,none⟩)] p.val fun e w' => e = .returned (.int .i64 (Pl.cmpRanks x.ranks y.ranks (dsOf ks))) /\ ∃ p':BelOf wr,w' = p'.val) := fun p =>
           (cmpFnM X x y ob base ks p.val (hcm.keep (fun k hk=>p.bel.block k (by omega))) ⟨own_below p.bel hex.1,hex.2⟩ ⟨own_below p.bel hey.1,hey.2⟩ (hokk x hmx).1 (hokk y hmy).1).mono (fun e w' ⟨he,hb⟩=>⟨he,⟨w',p.bel.trans (hb.mono p.bel.size)⟩,rfl⟩)
         have py0 := fun p=>BelOf.cell hgz y0 p
         have py1 := fun p=>BelOf.cell hgz y1 p
         have px0 := fun p=>BelOf.cell hgz x0 p
         have px1 := fun p=>BelOf.cell hgz x1 p
         rw [hxr,hxw,hyr,hyw] at HCmp
         rw [hxr] at px0
         rw [hxw] at px1
         rw [hyr] at py0
         rw [hyw] at py1
         rw [hxr] at x0
         rw [hxw] at x1
         rw [hyr] at y0
         rw [hyw] at y1
         generalize Pl.cmpRanks x.ranks y.ranks (dsOf ks) = c at *
         by_cases hc0:c < 0
         · have HLe := hide (hclt.1 hc0)
           have HSw:Hid (∀ W,Below wr.heap.size wr W -> InsI w ((((W.setCell ⟨g,(m + 1) * 2,none⟩ y.rv).setCell ⟨g,(m + 1) * 2 + 1,none⟩ y.row).setCell ⟨g,m * 2,none⟩ x.rv).setCell ⟨g,m * 2 + 1,none⟩ x.row).drew ks tys ob base g cap n A S R x m p' (y :: q)) := fun W hb=>by
             have h1 := (hrk.below hb).set (i := m + 1) (x := y) (by rw [hall]; exact hmn) ⟨own_below hb hey.1,hey.2⟩
             have h2 := h1.set (i := m) (x := x) (by rw [List.length_set,hall]; omega) ⟨(hrk.below hb).oth (own_below hb hex.1) _ _ _ _,hex.2⟩
             refine HJ.out.swap HLe.out ⟨h2.own,fun z hz=>h2.each z hz⟩ ?_ ?_
             · exact (hcm.keep (fun k hk=>hb.block k (by omega))).keep (fun k hk=>by
                 show ((((W.setCell _ _).setCell _ _).setCell _ _).setCell _ _).heap[k]? = _
                 rw [Below.heap_setCell _ _ _ _ (show k ≠ g by omega),Below.heap_setCell _ _ _ _ (show k ≠ g by omega),Below.heap_setCell _ _ _ _ (show k ≠ g by omega),Below.heap_setCell _ _ _ _ (show k ≠ g by omega)])
             · exact (((((hkp.below hb).set _ _).set _ _).set _ _).set _ _).drew
           rw [hxr,hxw,hyr,hyw] at HSw
           clear hclt hex hey hcm hkp hrk hln hall hspl hhi hokk hmy hmx
           go_wp2_with fail
           have iB2:Inhabited (BelOf wr) := BelOf.first wr
           refine wp_region_bel (by kernel_rfl) (by kernel_rfl) ?_
           repeat (go_big_quiet_step (exact (unhide HCmp) _))
           refine wpQuiet_nil ?_
           intro _ hw'
           obtain ⟨pb,hw''⟩ := hw'
           subst hw''
           have qy0 := py0 pb
           have qy1 := py1 pb
           have qx0 := px0 pb
           have qx1 := px1 pb
           have HPb := hide pb.bel
           have qf:∀ o,pb.val.frozen? ⟨g,o,none⟩ = false := fun o=>(World.frozen?_of_block (pb.bel.block g hgz)).trans (hfz o)
           have hgW:g < pb.val.heap.size := by have := pb.bel.size; omega
           clear py0 py1 px0 px1 x0 x1 y0 y1 HCmp
           generalize pb.val = W at *
           clear pb
           go_wp2_with fail
           go_region
           go_wp2_with fail
           go_roundw
           case rel=>exact ⟨m,p',y :: q,by go_num,by omega,by omega,HSw.out W HPb.out⟩
           case measure=>simp [intOf]
         · have hle:leT ks y x = true := by
             rcases hb:leT ks y x with _ | _
             · exact absurd (hclt.2 hb) hc0
             · rfl
           have HStop:Hid (∀ W,Below wr.heap.size wr W -> RkW W base (.slice (some ⟨g,0,none⟩) n cap) (insAt ks xs a (i + 1)) /\ Keeps g w W) := fun W hb=>by
             rw [HStep'.out]
             exact ⟨(HJ.out.stop HSs.out (.inr ⟨y,p',rfl,hle⟩)).below hb,hkp.below hb⟩
           clear hclt hex hey hcm hkp hrk hln hall hspl hhi hokk hmy hmx hle
           go_wp2_with fail
           have iB2:Inhabited (BelOf wr) := BelOf.first wr
           refine wp_region_bel (by kernel_rfl) (by kernel_rfl) ?_
           repeat (go_big_quiet_step (exact (unhide HCmp) _))
           refine wpQuiet_nil ?_
           intro _ hw'
           obtain ⟨pb,hw''⟩ := hw'
           subst hw''
           have HPb := hide pb.bel
           clear py0 py1 px0 px1 x0 x1 y0 y1 HCmp
           generalize pb.val = W at *
           clear pb
           go_wp2_with fail
           go_roundw
           case rel=>exact ⟨i + 1,by go_num,by omega,by omega,.inl (by omega),HStop.out W HPb.out⟩
           case measure=>simp [intOf]; omega
       · have hja2:j = a := by omega
         have hdf:decide (((a:Nat):Int) < ((j:Nat):Int)) = false := by simp; omega
         have HStop:Hid (∀ W,Below wr.heap.size wr W -> RkW W base (.slice (some ⟨g,0,none⟩) n cap) (insAt ks xs a (i + 1)) /\ Keeps g w W) := fun W hb=>by
           rw [HStep'.out]
           have hp0:p = [] := by
             have := HJ.out.len
             cases p with
             | nil=>rfl
             | cons z l=>simp at this; omega
           exact ⟨(HJ.out.stop HSs.out (.inl hp0)).below hb,HJ.out.keep.below hb⟩
         clear hja2
         go_wp2_with fail
         have iB2:Inhabited (BelOf wr) := BelOf.first wr
         refine wp_region_bel (by kernel_rfl) (by kernel_rfl) ?_
         repeat (go_big_quiet_step (fail))
         refine wpQuiet_nil ?_
         intro _ hw'
         obtain ⟨pb,hw''⟩ := hw'
         subst hw''
         have HPb := hide pb.bel
         generalize pb.val = W at *
         clear pb
         go_wp2_with fail
         go_roundw
         case rel=>exact ⟨i + 1,by go_num,by omega,by omega,.inl (by omega),HStop.out W HPb.out⟩
         case measure=>simp [intOf]; omega
   · have HE:Hid (insAt ks xs a i = insAt ks xs a b) := by
       unfold Hid
       rcases hib with h | h
       · rw [show i = b by omega]
       · by_cases hb1:b = a + 1
         · rw [h,hb1]
         · have hba:b = a := by omega
           rw [h,hba,(insAt_start ks xs a).1,(insAt_start ks xs a).2]
     go_wp2_with fail
     exact bodyPost_end (v := .tuple #[]) (by simp [results,Tryz.results258,go_sem]) rfl ⟨rfl,by rw [<- HE.out]; exact HI.out.1,HI.out.2⟩
def StableM (N L:Nat):Prop := ∀ (ks:List Key) (tys:List Int) (ob base:Nat) (v:Value) (xs:List Rk) (w:World),ks.length <= L -> tys.length = ks.length -> xs.length <= N -> RkW w base v xs -> CmpIn w ob ks -> ob < base -> (∀ x ∈ xs,RkOk ks tys x) ->
 Calls Tryz.prog 174 #[v,cmpFn ob] w fun e w' => e = .returned (.tuple #[]) /\ RkW w' base v (Pl.isort (leT ks) xs) /\ Below base w w'
theorem insNilM (f:Value) (w:World):Calls Tryz.prog 258 #[.slice none 0 0,.int .i64 0,.int .i64 0,f] w fun e w' => e = .returned (.tuple #[]) /\ w' = w := by
 go_enter Tryz.func258,Tryz.ntmps258
 go_wp2_with fail
 go_loopw [8] (fun s8 wr=>s8 = .int .i64 1 /\ wr = w) (fun s _=>0)
 case atStart=>exact ⟨rfl,rfl⟩
 case round =>
   obtain ⟨rfl,rfl⟩ := hrel
   go_wp2_with fail
   exact bodyPost_end (v := .tuple #[]) (by simp [results,Tryz.results258,go_sem]) rfl ⟨rfl,rfl⟩
theorem insAt_all (ks:List Key) (xs:List Rk):insAt ks xs 0 xs.length = Pl.isort (leT ks) xs := by
 unfold insAt; simp
theorem keeps_below' {w w':World} {g base:Nat} (h:Keeps g w w') (hb:base <= g) (hs:base <= w.heap.size):Below base w w' :=
 ⟨h.os,h.tape,h.output,h.size,fun k hk=>h.block k (by omega) (by omega)⟩
theorem stableCmp20 (Post:Ending -> World -> Prop) (hPost:∀ e w',Post e w' -> e = .returned (.tuple #[])) (va:Option Addr) (vc n:Nat) (hn:n <= 19) (f:Value) (w:World) (hI:Calls Tryz.prog 258 #[.slice va n vc,.int .i64 0,.int .i64 ((n:Nat):Int),f] w Post) :
   Calls Tryz.prog 229 #[.slice va n vc,.int .i64 ((n:Nat):Int),f] w Post := by
 have HI := hide hI
 have HPost := hide hPost
 clear hI hPost
 go_enter Tryz.func229,Tryz.ntmps229
 go_wp2_with fail
 go_loopw [7,8] (fun s7 s8 wr=>s7 = .int .i64 0 /\ s8 = .int .i64 20 /\ wr = w) (fun _ _ _=>0)
 case atStart=>exact ⟨rfl,rfl,rfl⟩
 case round =>
   obtain ⟨rfl,rfl,rfl⟩ := hrel
   go_wp2_with fail
   refine (unhide HI).mono ?_
   intro e w1 hp
   obtain rfl := HPost.out _ _ hp
   have HP1 := hide hp
   clear hp
   go_wp2_with fail
   go_loopw [6] (fun s6 wr=>s6 = .int .i64 20 /\ wr = w1) (fun _ _=>0)
   case atStart=>exact ⟨rfl,rfl⟩
   case round =>
     obtain ⟨rfl,rfl⟩ := hrel
     go_wp2_with fail
     exact bodyPost_end (v := .tuple #[]) (by simp [results,Tryz.results229,go_sem]) rfl HP1.out
theorem sortStable_of (Post:Ending -> World -> Prop) (hPost:∀ e w',Post e w' -> e = .returned (.tuple #[])) (va:Option Addr) (vc n:Nat) (f:Value) (w:World) (hI:Calls Tryz.prog 229 #[.slice va n vc,.int .i64 ((n:Nat):Int),f] w Post) :
   Calls Tryz.prog 174 #[.slice va n vc,f] w Post := by
 have HI := hide hI
 have HPost := hide hPost
 clear hI hPost
 go_enter Tryz.func174,Tryz.ntmps174
 go_wp2_with fail
 refine (unhide HI).mono ?_
 intro e w1 hp
 obtain rfl := HPost.out _ _ hp
 have HP1 := hide hp
 clear hp
 go_wp2_with fail
 exact bodyPost_end (v := .tuple #[]) (by simp [results,Tryz.results174,go_sem]) rfl HP1.out
theorem stable20 (X:MachLib) {L:Nat}:StableM 19 L := by
 intro ks tys ob base v xs w _ htl hn hW hC hob hok
 obtain ⟨va,vc,hv,_⟩ := own_cap hW.own
 have hP:∀ e w',(fun (e:Ending) (w':World)=>e = .returned (.tuple #[]) /\ RkW w' base v (Pl.isort (leT ks) xs) /\ Below base w w') e w' -> e = .returned (.tuple #[]) := fun e w' h=>h.1
 have hI:Calls Tryz.prog 258 #[v,.int .i64 0,.int .i64 ((xs.length:Nat):Int),cmpFn ob] w fun e w' => e = .returned (.tuple #[]) /\ RkW w' base v (Pl.isort (leT ks) xs) /\ Below base w w' := by
   rcases hW.own.2 with ⟨rfl,h0⟩ | ⟨g,cap,cur,rfl,hb,hg,_⟩
   · obtain rfl:xs = [] := List.length_eq_zero_iff.1 h0
     refine (insNilM _ w).mono ?_
     rintro e w' ⟨rfl,rfl⟩
     exact ⟨rfl,hW,Below.refl _ _⟩
   · have := insM X ks tys htl ob base g cap 0 xs.length xs.length xs w (Nat.zero_le _) (Nat.le_refl _) rfl (by omega) hW hC (by omega) hok
     refine this.mono ?_
     rintro e w' ⟨rfl,h1,h2⟩
     rw [insAt_all] at h1
     exact ⟨rfl,h1,keeps_below' h2 hb (by have := lt_of_blk hg; omega)⟩
 rw [hv] at hI hP ⊢
 exact sortStable_of _ hP va vc xs.length _ w (stableCmp20 _ hP va vc xs.length hn _ w hI)
theorem Tryz.infoRk:(Tryz.prog.info? 288).map (fun i=>(i.zero,i.size,i.bytes)) = some (some (.agg #[.slice none 0 0,.slice none 0 0]),2,48) := by kernel_rfl
structure RR where
 p:Pl.PRow
 q:Pl.PRow
def RR.rk (r:RR):Rk := ⟨r.q.1,r.q.2,r.p.2⟩
structure OrdA (w wr:World) (O:Obj) (o:Pl.Out (List (List Pl.V))) (cols:List Pl.Col) (ts:List Pl.T) (ps:List Pl.PRow) (i:Nat) (v:Value) (rs:List RR):Prop where
 bel:Below (w.heap.size + 1) (w.alloc O) wr
 rk:RkW wr (w.heap.size + 1) v (rs.map RR.rk)
 rows:rs.map RR.p = ps.take i
 len:rs.length = i
 ev:o = addR (rs.map (fun r=>r.q.1)) (Pl.evRows cols ts ((ps.drop i).map (·.1)))
theorem OrdA.low {w wr:World} {O:Obj} {o:Pl.Out (List (List Pl.V))} {cols:List Pl.Col} {ts:List Pl.T} {ps:List Pl.PRow} {i:Nat} {v:Value} {rs:List RR} (h:OrdA w wr O o cols ts ps i v rs):Below w.heap.size w wr /\ wr.heap[w.heap.size]? = some O /\ w.heap.size + 1 <= wr.heap.size := by
 have h1 := h.bel
 have hz := h1.size
 simp at hz
 refine ⟨((Below.refl w.heap.size w).alloc (Nat.le_refl _) O).trans (h1.mono (Nat.le_succ _)),?_,hz⟩
 rw [h1.block _ (Nat.lt_succ_self _)]; exact blk_new _ _
theorem OrdA.next {w wr w2 w4:World} {O:Obj} {o:Pl.Out (List (List Pl.V))} {cols:List Pl.Col} {ts:List Pl.T} {ps:List Pl.PRow} {i:Nat} {v v' u:Value} {rs:List RR} {p:Pl.PRow} {r:List Pl.V} (h:OrdA w wr O o cols ts ps i v rs) (hpi:ps[i]? = some p) (hp:ps.drop i = p :: ps.drop (i + 1)) (he:Pl.evAll cols p.1 ts = .ok r) (hps:∃ a m c,p.2 = .slice a m c) (hb:Below wr.heap.size wr w2) (hu:w2.ownsRow wr.heap.size 34 3 u r.length (rowC r))
   (hown:w4.ownsRow (w.heap.size + 1) 288 2 v' (i + 1) (rksC (rs.map RR.rk) ++ [u,p.2])) (hg:w2.grownBy w4 v.ownBlock):OrdA w w4 O o cols ts ps (i + 1) v' (rs ++ [⟨p,(r,u)⟩]) := by
 obtain ⟨h1,h2,h3,h4,h5⟩ := h
 have hz := h1.size
 simp at hz
 have hz2 := hb.size
 have h22 := own_below hb h2.own
 refine ⟨below_grown (h1.trans (hb.mono hz)) hg (fun k hk=>(h2.own.lt k hk).1) (by omega),⟨?_,fun x hx=>?_⟩,?_,by simp [h4],?_⟩
 · rw [List.map_append,rksC_app,List.length_append,List.length_map,h4]
   exact hown
 · rw [List.map_append] at hx
   rcases List.mem_append.1 hx with hx | hx
   · exact ⟨own_other (own_below hb (h2.each x hx).1) h22 hg (by decide),(h2.each x hx).2⟩
   · simp at hx; subst hx
     exact ⟨own_base (own_other hu h22 hg (by decide)) (by omega),hps⟩
 · rw [List.take_add_one,hpi]; simp [h3]
 · rw [h5,hp,List.map_cons,addR_step he]
   simp
def OrdB (w wr:World) (xs:List Rk) (i:Nat) (v:Value):Prop := Below w.heap.size w wr /\ wr.ownsRow w.heap.size 32 1 v i ((xs.take i).map Rk.row)
def PostOrd (w:World) (o:Pl.Out (List (List Pl.V))) (ps:List Pl.PRow) (ds:List Bool) (e:Ending) (w':World):Prop := Below w.heap.size w w' /\
 ((∃ er,o = .error er /\ e = .returned (.tuple #[.slice none 0 0,.int .i64 (er:Nat)])) \/
  (∃ ranks qs v,o = .ok ranks /\ qs.map (·.1) = Pl.sorted (ps.map (·.1)) ranks ds /\ (∀ q ∈ qs,q ∈ ps) /\ qs.length = ps.length /\ e = .returned (.tuple #[v,.int .i64 0]) /\ w'.ownsRow w.heap.size 32 1 v qs.length (sndC qs)))
theorem ins_map {α β:Type} (f:α -> β) (le:α -> α -> Bool) (le':β -> β -> Bool) (x:α):∀ (l:List α),(∀ y ∈ l,le x y = le' (f x) (f y)) -> (Pl.ins le x l).map f = Pl.ins le' (f x) (l.map f)
 | [],_=>rfl
 | y :: l,h=>by
   unfold Pl.ins
   rw [h y (by simp),List.map_cons]
   simp only
   split
   · rfl
   · rw [List.map_cons,ins_map f le le' x l (fun z hz=>h z (by simp [hz]))]
theorem isort_map {α β:Type} (f:α -> β) (le:α -> α -> Bool) (le':β -> β -> Bool):∀ (l:List α),(∀ x ∈ l,∀ y ∈ l,le x y = le' (f x) (f y)) -> (Pl.isort le l).map f = Pl.isort le' (l.map f)
 | [],_=>rfl
 | x :: l,h=>by
   show (Pl.ins le x (Pl.isort le l)).map f = Pl.ins le' (f x) (Pl.isort le' (l.map f))
   rw [<- isort_map f le le' l (fun a ha b hb=>h a (by simp [ha]) b (by simp [hb]))]
   exact ins_map f le le' x _ (fun y hy=>h x (by simp) y (by simp [Pl.isort_mem hy]))
theorem sorted_rk {ks:List Key} {tys:List Int} (ht:tys.length = ks.length) {rs:List RR} (hok:∀ r ∈ rs,RkOk ks tys r.rk):∃ rs':List RR,rs'.map RR.rk = Pl.isort (leT ks) (rs.map RR.rk) /\ (rs'.map RR.p).map (·.1) = Pl.sorted ((rs.map RR.p).map (·.1)) (rs.map (fun r=>r.q.1)) (dsOf ks) /\ (∀ r ∈ rs',r ∈ rs) /\ rs'.length = rs.length := by
 refine ⟨Pl.isort (fun a b=>leT ks a.rk b.rk) rs,isort_map RR.rk _ _ rs (fun x _ y _=>rfl),?_,fun r hr=>Pl.isort_mem hr,Pl.isort_len _ _⟩
 unfold Pl.sorted
 have hz:(rs.map (fun r=>r.q.1)).zip ((rs.map RR.p).map (·.1)) = rs.map (fun r=>(r.q.1,r.p.1)) := by
   induction rs with
   | nil=>rfl
   | cons a l ih=>simp only [List.map_cons,List.zip_cons_cons]; rw [ih (fun r hr=>hok r (by simp [hr]))]
 rw [hz,<- isort_map (fun r:RR=>(r.q.1,r.p.1)) (fun a b=>leT ks a.rk b.rk) _ rs ?_]
 · rw [List.map_map,List.map_map]; rfl
 · intro x hx y hy
   unfold leT
   show _ = decide (Pl.cmpRanks x.q.1 y.q.1 (dsOf ks) <= 0)
   rw [Pl.cmp_cmpT tys (dsOf ks) x.q.1 y.q.1 (by simp [dsOf,ht]) (hok x hx).2 (hok y hy).2]
   rfl
theorem RkW.at {w:World} {base:Nat} {v:Value} {xs:List Rk} (h:RkW w base v xs) {i:Nat} {x:Rk} (hx:xs[i]? = some x):∃ g cap,v = .slice (some ⟨g,0,none⟩) xs.length cap /\ g < w.heap.size /\ w.cell? ⟨g,i * 2,none⟩ = some x.rv /\ w.cell? ⟨g,i * 2 + 1,none⟩ = some x.row := by
 rcases h.own.2 with ⟨_,h0⟩ | ⟨g,cap,cur,hv,_,hh,_,_,_,ht⟩
 · have := getElem?_lt hx; omega
 · have hcur:∀ k u,(rksC xs)[k]? = some u -> cur[k]? = some u := fun k u hk=>by
     rw [<- ht,List.getElem?_take] at hk
     split at hk
     · simpa using hk
     · cases hk
   exact ⟨g,cap,hv,lt_of_blk hh,(blk_cell hh _).trans (hcur _ _ (rksC_at hx).1),(blk_cell hh _).trans (hcur _ _ (rksC_at hx).2)⟩
theorem inOrderM (X:MachLib) (N:Nat) {L:Nat} (HS:StableM N L) (cols:List Pl.Col) (ts:List (Pl.T × Value)) (ps:List Pl.PRow) (ks:List Key) (rv pv kv:Value) (w:World) (hm:MatW w w.heap.size ps rv) (hp:ProgsW w w.heap.size cols ts pv) (hk:RowsW w w.heap.size 2 keyC ks kv) (hkp:∀ k ∈ ks,∃ p,k.2.1 = .pointer p) (hlen:ts.length = ks.length) (hf:∀ p ∈ ts,Pl.Fine cols p.1) (hrow:∀ p ∈ ps,Pl.RowFor cols p.1) (hl:ps.length <= N) (hN:N <= 1048576) (htl:ks.length <= 1000) (hkL:ks.length <= L) :
   Calls Tryz.prog 112 #[rv,pv,kv] w (PostOrd w (Pl.evRows cols (ts.map (·.1)) (ps.map (·.1))) ps (dsOf ks)) := by
 obtain ⟨ra,rc,rfl⟩ := hm.1.slice
 obtain ⟨ka,kc,rfl⟩ := hk.slice
 obtain ⟨i0,hi,hz0,hz1,hz2⟩ := info_parts Tryz.infoRk
 obtain ⟨j0,hj,hy0,hy1,hy2⟩ := info_parts Tryz.infoRow
 have HM := hide hm
 have HP := hide hp
 have HF := hide hf
 have HRow := hide hrow
 have HK := hide hk
 have HKp := hide hkp
 have HLen := hide hlen
 have HSt := hide HS
 generalize ho:Pl.evRows cols (ts.map (·.1)) (ps.map (·.1)) = o
 have HO := hide ho
 clear hm hp hf hrow ho hk hkp hlen HS
 go_enter Tryz.func112,Tryz.ntmps112
 go_wp2_with fail
 have HI0:Hid (OrdA w (w.alloc (.cells #[.slice ka ks.length kc] 227)) (.cells #[.slice ka ks.length kc] 227) o cols (ts.map (·.1)) ps 0 (.slice none 0 0) []) :=
   ⟨Below.refl _ _,⟨World.ownsRow_nil _ _ _ _,by simp⟩,rfl,rfl,by rw [<- HO.out]; simp; cases Pl.evRows cols (ts.map (·.1)) (ps.map (·.1)) <;> simp [addR]⟩
 go_loopw [8,18] (fun s8 s18 wr=>∃ (i:Nat) (rs:List RR),i <= ps.length /\ s18 = .int .i64 i /\ Hid (OrdA w wr (.cells #[.slice ka ks.length kc] 227) o cols (ts.map (·.1)) ps i s8 rs)) (fun _ a _=>ps.length - (intOf a).toNat)
 case atStart=>exact ⟨0,[],Nat.zero_le _,rfl,HI0⟩
 case round =>
   obtain ⟨i,rs,hi',rfl,HI⟩ := hrel
   clear HI0
   obtain ⟨hbI,hbox,hbz⟩ := HI.out.low
   have hwz:w.heap.size < wr.heap.size := by omega
   obtain ⟨v1a,v1n,v1c,rfl⟩ := own_slice HI.out.rk.own
   by_cases hlt:i < ps.length
   · have hpi:ps[i]? = some ps[i] := List.getElem?_eq_getElem hlt
     have HD:Hid (ps.drop i = ps[i] :: ps.drop (i + 1)) := List.drop_eq_getElem_cons hlt
     have hmem := List.getElem_mem hlt
     generalize ps[i] = p at *
     obtain ⟨pr,pv'⟩ := p
     obtain ⟨g,cap,he,hg,e0⟩ := (HM.out.1.keep (fun k hk=>hbI.block k hk)).at1 hpi
     cases he
     have hgz:g < wr.heap.size := by omega
     obtain ⟨qa,qc,hqv⟩:∃ a c,pv' = .slice a pr.length c := (HM.out.2 _ hmem).slice
     subst hqv
     have hrf := HRow.out _ hmem
     have HRun := hide (reckonAllM X cols pr ts pv _ wr (HP.out.below hbI) ((HM.out.2 _ hmem).below hbI) HF.out ⟨hrf.2.1,by rw [hrf.1]; exact Nat.le_refl _⟩ (by have := HLen.out; omega))
     have HPi := hide hpi
     simp only at e0
     clear hbI hbox hrf
     go_wp2_with fail
     refine (unhide HRun).mono ?_
     rintro e w2 ⟨hb2,hp2⟩
     have HB2 := hide hb2
     have hz2' := hb2.size
     clear HRun hb2
     rcases hp2 with ⟨er,hev,rfl⟩ | ⟨r,u,hev,rfl,hu⟩
     · have her:((er:Int) != 0) = true := by have := evAll_err hev; simp; omega
       have HE:Hid (o = .error er) := by unfold Hid; rw [HI.out.ev,HD.out]; exact addR_err hev
       clear hev
       go_wp2_with fail
       exact bodyPost_ret (v := .tuple #[.slice none 0 0,.int .i64 (er:Nat)]) (by simp [results,Tryz.results112,go_sem]) rfl ⟨HI.out.low.1.trans (HB2.out.mono (by omega)),.inl ⟨er,HE.out,rfl⟩⟩
     · obtain ⟨ua,un,uc,rfl⟩ := own_slice hu
       have HU := hide hu
       have HEv := hide hev
       have hown2 := own_below HB2.out HI.out.rk.own
       have hal := HI.out.len
       rw [List.length_map,hal] at hown2
       clear hev hu
       go_wp2_with (at_builtin; refine wpList_append_own _ rfl (.tmp 31) (.tmp 35) 286 rfl (w.heap.size + 1) 288 i0 _ 2 48 Tryz.underlying286 hi hz0 hz1 hz2 rfl (by decide) _ _ _ rfl (hown2.alloc _) ⟨w2.heap.size,0,none⟩ 1 1 [.slice ua un uc,.slice qa pr.length qc] rfl rfl ?c1 ?c2 ?c3 ?c4 ?c5 ?_)
       case c1=>exact news_at w2 [.slice ua un uc,.slice qa pr.length qc] 288
       case c2=>intro x hx; simp at hx; rcases hx with rfl | rfl <;> rfl
       case c3=>unfold maxLen; omega
       case c4=>omega
       case c5=>simp; omega
       intro v' w4 hown4 hg4 hnil
       have HI4 := hide (HI.out.next (p := (pr,.slice qa pr.length qc)) (w2 := w2.alloc (.cells #[.slice ua un uc,.slice qa pr.length qc] 288)) HPi.out HD.out HEv.out ⟨_,_,_,rfl⟩ (HB2.out.alloc hz2' _) (HU.out.alloc _) hown4 hg4)
       clear hown2 hown4 hg4 hnil
       go_wp2_with fail
       go_roundw
       case rel=>exact ⟨i + 1,_,by omega,by go_num,HI4⟩
       case measure=>simp [intOf]; omega
   · obtain rfl:i = ps.length := by omega
     have HE:Hid (o = .ok (rs.map (fun r=>r.q.1))) := by unfold Hid; rw [HI.out.ev,List.drop_length]; simp [Pl.evRows,addR]
     have hrows:rs.map RR.p = ps := by rw [HI.out.rows,List.take_length]
     have hev:Pl.evRows cols (ts.map (·.1)) (ps.map (·.1)) = .ok (rs.map (fun r=>r.q.1)) := by rw [HO.out]; exact HE.out
     have hokt:∀ t ∈ ts.map (·.1),Pl.okT t := fun t ht=>by obtain ⟨p,hp,rfl⟩ := List.mem_map.1 ht; exact (HF.out p hp).1
     have htct:∀ t ∈ ts.map (·.1),∃ ty,Pl.tc cols t = .ok ty := fun t ht=>by obtain ⟨p,hp,rfl⟩ := List.mem_map.1 ht; exact (HF.out p hp).2
     have hrf:∀ r ∈ ps.map (·.1),Pl.RowFor cols r := fun r hr=>by obtain ⟨p,hp,rfl⟩ := List.mem_map.1 hr; exact HRow.out p hp
     have hokr:∀ r ∈ rs,RkOk ks (Pl.tysOf cols (ts.map (·.1))) r.rk := fun r hr=>by
       have hm':r.q.1 ∈ rs.map (fun r=>r.q.1) := List.mem_map_of_mem hr
       refine ⟨?_,Pl.evRows_types hokt htct hrf hev _ hm'⟩
       have := ((Pl.evRows_ok hokt hrf hev).2 _ hm').1
       rw [List.length_map] at this
       exact this.trans HLen.out
     obtain ⟨rs',s1,s2,s3,s4⟩ := sorted_rk (ks := ks) (tys := Pl.tysOf cols (ts.map (·.1))) (by simp [Pl.tysOf]; exact HLen.out) hokr
     have HSort := hide (unhide HSt ks (Pl.tysOf cols (ts.map (·.1))) w.heap.size (w.heap.size + 1) _ (rs.map RR.rk) wr hkL (by simp [Pl.tysOf]; exact HLen.out) (by rw [List.length_map,HI.out.len]; exact hl) HI.out.rk ⟨⟨_,hbox,HK.out.keep (fun k hk=>hbI.block k hk)⟩,HKp.out,htl⟩ (Nat.lt_succ_self _) (fun x hx=>by obtain ⟨r,hr,rfl⟩ := List.mem_map.1 hx; exact hokr r hr))
     rw [<- s1] at HSort
     have HS2 := hide s2
     have HS3 := hide s3
     have hs4:rs'.length = ps.length := by rw [s4]; exact HI.out.len
     have HRows := hide hrows
     unfold cmpFn at HSort
     clear hbI hbox hev hokt htct hrf hokr s1 s2 s3 s4 hrows
     obtain ⟨xs,hxs⟩:∃ xs,rs'.map RR.rk = xs := ⟨_,rfl⟩
     have HXs := hide hxs
     have hxl:xs.length = ps.length := by rw [<- hxs,List.length_map]; exact hs4
     rw [hxs] at HSort
     clear hxs
     go_wp2_with fail
     refine (unhide HSort).mono ?_
     rintro e w3 ⟨rfl,hrk3,hb3⟩
     have HRk := hide hrk3
     have HB3:Hid (Below w.heap.size w w3) := HI.out.low.1.trans (hb3.mono (Nat.le_succ _))
     obtain ⟨v3a,v3c,hv3,_⟩ := own_cap hrk3.own
     have HV3 := hide hv3
     rw [hxl] at hv3
     injection hv3 with hva hvn hvc
     subst hva hvn hvc
     clear hrk3 hb3 HSort
     go_wp2_with fail
     go_loopw [13,43] (fun s13 s43 wr=>∃ (i:Nat),i <= xs.length /\ s43 = .int .i64 i /\ Hid (OrdB w3 wr xs i s13)) (fun _ a _=>xs.length - (intOf a).toNat)
     case atStart=>exact ⟨0,Nat.zero_le _,rfl,Below.refl _ _,World.ownsRow_nil _ _ _ _⟩
     case round =>
       obtain ⟨i,hi',rfl,HJ⟩ := hrel
       have hbJ := HJ.out.1
       have hown := HJ.out.2
       have hbzJ := hbJ.size
       obtain ⟨z1a,z1n,z1c,rfl⟩ := own_slice hown
       by_cases hlt2:i < xs.length
       · have hpi:xs[i]? = some xs[i] := List.getElem?_eq_getElem hlt2
         have HD2:Hid (xs.take (i + 1) = xs.take i ++ [xs[i]]) := by unfold Hid; rw [List.take_add_one,hpi]; rfl
         have hmem := List.getElem_mem hlt2
         generalize xs[i] = x at *
         obtain ⟨g,cap,he,hg,e0,e1⟩ := (HRk.out.below hbJ).at hpi
         rw [hxl] at he
         cases he
         obtain ⟨hxo,xra,xrm,xrc,hxw⟩ := HRk.out.each x hmem
         obtain ⟨xa,xn,xc,hxr⟩ := own_slice hxo
         rw [hxr] at e0
         rw [hxw] at e1
         have HXw := hide hxw
         clear hbJ hmem hxo hxw hxr
         go_wp2_with (at_builtin; refine wpList_append_own _ rfl (.tmp 47) (.tmp 50) 29 rfl w3.heap.size 32 j0 _ 1 24 Tryz.underlying29 hj hy0 hy1 hy2 rfl (by decide) _ _ _ rfl ((hown.alloc _).alloc _) ⟨wr.heap.size + 1,0,none⟩ 1 1 [.slice xra xrm xrc] rfl rfl ?c1 ?c2 ?c3 ?c4 ?c5 ?_)
         case c1=>exact news2 wr _ [.slice xra xrm xrc] 32
         case c2=>intro x hx; simp at hx; subst hx; rfl
         case c3=>unfold maxLen; omega
         case c4=>omega
         case c5=>simp; omega
         intro v' w4 hown4 hg4 hnil
         have HI4:Hid (OrdB w3 w4 xs (i + 1) v') := by
           refine ⟨below_grown ((HJ.out.1.alloc HJ.out.1.size _).alloc (by simp; omega) _) hg4 (fun k hk=>(hown.lt k hk).1) (by simp; omega),?_⟩
           rw [HD2.out,List.map_append,List.map_take]
           show w4.ownsRow _ _ _ _ _ (_ ++ [x.row])
           rw [HXw.out]
           exact hown4
         clear hown hown4 hg4 hnil
         go_wp2_with fail
         go_roundw
         case rel=>exact ⟨i + 1,by omega,by go_num,HI4⟩
         case measure=>simp [intOf]; omega
       · obtain rfl:i = xs.length := by omega
         rw [List.take_length] at hown
         have HFin:Hid (wr.ownsRow w.heap.size 32 1 (.slice z1a z1n z1c) (rs'.map RR.p).length (sndC (rs'.map RR.p))) := by
           unfold Hid
           have h2 := own_base hown HB3.out.size
           rw [<- HXs.out,List.map_map,List.length_map] at h2
           rw [List.length_map]
           unfold sndC
           rw [List.map_map]
           exact h2
         have HBf:Hid (Below w.heap.size w wr) := HB3.out.trans (hbJ.mono HB3.out.size)
         clear hbJ hown
         go_wp2_with fail
         refine bodyPost_ret (v := .tuple #[.slice z1a z1n z1c,.int .i64 0]) (by simp [results,Tryz.results112,go_sem]) rfl ⟨HBf.out,.inr ⟨_,rs'.map RR.p,_,HE.out,?_,fun q hq=>?_,by rw [List.length_map]; exact hs4,rfl,HFin.out⟩⟩
         · have := HS2.out
           rw [HRows.out] at this
           exact this
         · obtain ⟨r,hr,rfl⟩ := List.mem_map.1 hq
           rw [<- HRows.out]
           exact List.mem_map_of_mem (HS3.out r hr)
end Go.Proofs.YtojdpjpldokjmaaGreatDoor
