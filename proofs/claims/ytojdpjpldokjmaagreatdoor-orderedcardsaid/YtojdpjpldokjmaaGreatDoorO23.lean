/- The keep Ordered: before, having. -/
import Derived.Test.YtojdpjpldokjmaaGreatDoorO21
import Derived.Test.YtojdpjpldokjmaaGreatDoorO22
set_option maxHeartbeats 60000000
set_option maxRecDepth 100000
namespace Go.Proofs.YtojdpjpldokjmaaGreatDoor.Pl
theorem less_or:∀ {a b:List UInt8},Lib.compareBytes a b <= 0 -> (Op.bytesLess a b || a == b) = true
 | [],[],_=>rfl
 | [],_ :: _,_=>rfl
 | _ :: _,[],h=>by simp [Lib.compareBytes] at h
 | x :: a,y :: b,h=>by
   unfold Lib.compareBytes at h
   simp only [u8_lt] at h
   split at h
   · rename_i h1
     have h1':x < y := u8_lt.2 h1
     simp [Op.bytesLess,h1']
   · split at h
     · omega
     · rename_i h1 h2
       have e:x = y := UInt8.toNat_inj.1 (by omega)
       subst e
       have ih := less_or h
       simp [Op.bytesLess] at ih ⊢
       rcases ih with ih | ih
       · simp [ih]
       · simp [ih]
theorem befV_cases {a b:V} (h:befV a b = true):a.kind < b.kind \/ (a.kind = b.kind /\ a.n < b.n) \/ (a.kind = b.kind /\ a.n = b.n /\ (Op.bytesLess a.s b.s || a.s == b.s) = true) := by
 simp [befV] at h
 rcases h with h | ⟨h1,h2 | ⟨h2,h3⟩⟩
 · exact .inl h
 · exact .inr (.inl ⟨h1,h2⟩)
 · exact .inr (.inr ⟨h1,h2,less_or h3⟩)
theorem hasV_same {k:Nat} {v:V} {r:List V} (h:k < r.length):hasV k v r = V.same (r.getD k nul) v := by
 simp [hasV,colV,h]
theorem has_take {rows:List (List V)} {f:List V -> Bool} {i:Nat} {r:List V} (h:rows[i]? = some r):(rows.take (i + 1)).filter f = (rows.take i).filter f ++ if f r = true then [r] else [] := by
 obtain ⟨h1,h2⟩ := List.getElem?_eq_some_iff.1 h
 have:rows.take (i + 1) = rows.take i ++ [r] := by
   rw [<- h2]
   exact (List.take_append_getElem h1).symm
 rw [this,List.filter_append]
 congr 1
 cases hf:f r <;> simp [hf]
end Go.Proofs.YtojdpjpldokjmaaGreatDoor.Pl
namespace Go.Proofs.YtojdpjpldokjmaaGreatDoor
open Go.RowKit Go.Deep
set_option linter.unusedSimpArgs false
set_option linter.unusedVariables false
theorem befM (a b:Pl.V) (w:World) (h:Pl.befV a b = true) :
   Calls Tryz.prog 26 #[.agg #[.int .i64 a.kind,.int .i64 a.n,.string ⟨a.s.toArray⟩],.agg #[.int .i64 b.kind,.int .i64 b.n,.string ⟨b.s.toArray⟩]] w fun e w' => e = .returned (.bool true) /\ Below w.heap.size w w' := by
 have HBw:Hid (∀ o o2,Below w.heap.size w ((w.alloc o).alloc o2)) := fun o o2=>((Below.refl _ _).alloc (Nat.le_refl _) _).alloc (by simp) _
 have hc := Pl.befV_cases h
 clear h
 rcases hc with hc | ⟨hc,hn⟩ | ⟨hc,hn,hs⟩
 · generalize (⟨a.s.toArray⟩:ByteArray) = s1
   generalize (⟨b.s.toArray⟩:ByteArray) = s2
   go_enter Tryz.func26,Tryz.ntmps26
   go_wp2_with fail
   go_ret
   exact ⟨rfl,HBw.out _ _⟩
 · generalize (⟨a.s.toArray⟩:ByteArray) = s1
   generalize (⟨b.s.toArray⟩:ByteArray) = s2
   rw [<- hc]
   go_enter Tryz.func26,Tryz.ntmps26
   go_wp2_with fail
   go_ret
   exact ⟨rfl,HBw.out _ _⟩
 · have hs':(Op.bytesLess (⟨a.s.toArray⟩:ByteArray).toList (⟨b.s.toArray⟩:ByteArray).toList || (⟨a.s.toArray⟩:ByteArray).toList == (⟨b.s.toArray⟩:ByteArray).toList) = true := by simpa using hs
   clear hs
   generalize (⟨a.s.toArray⟩:ByteArray) = s1 at *
   generalize (⟨b.s.toArray⟩:ByteArray) = s2 at *
   rw [<- hc,<- hn]
   go_enter Tryz.func26,Tryz.ntmps26
   go_wp2_with fail
   go_ret
   exact ⟨rfl,HBw.out _ _⟩
structure HavI (w W:World) (rows:List (List Pl.V)) (k:Nat) (x:Pl.V) (i:Nat) (a:List Pl.PRow) (v:Value):Prop where
 bel:Below w.heap.size w W
 box:W.heap[w.heap.size]? = some (.cells #[.int .i64 x.kind,.int .i64 x.n,.string ⟨x.s.toArray⟩] 34)
 own:W.ownsRow (w.heap.size + 1) 32 1 v a.length (sndC a)
 eq:a.map (·.1) = (rows.take i).filter (Pl.hasV k x)
 rows:∀ p ∈ a,RowsW w w.heap.size 3 vC p.1 p.2
theorem HavI.none (w:World) (rows:List (List Pl.V)) (k:Nat) (x:Pl.V):HavI w (w.alloc (.cells #[.int .i64 x.kind,.int .i64 x.n,.string ⟨x.s.toArray⟩] 34)) rows k x 0 [] (.slice none 0 0) :=
 ⟨(Below.refl _ _).alloc (Nat.le_refl _) _,blk_new _ _,World.ownsRow_nil _ _ _ _,by simp,fun p hp=>(by cases hp)⟩
theorem HavI.below {w W W':World} {rows:List (List Pl.V)} {k i:Nat} {x:Pl.V} {a:List Pl.PRow} {v:Value} (h:HavI w W rows k x i a v) (hb:Below W.heap.size W W'):HavI w W' rows k x i a v :=
 ⟨h.bel.trans (hb.mono h.bel.size),below_blk hb (lt_of_blk h.box) h.box,own_below hb h.own,h.eq,h.rows⟩
theorem HavI.no {w W:World} {rows:List (List Pl.V)} {k i:Nat} {x:Pl.V} {a:List Pl.PRow} {v:Value} (h:HavI w W rows k x i a v) {r:List Pl.V} (hr:rows[i]? = some r) (hf:Pl.hasV k x r = false):HavI w W rows k x (i + 1) a v :=
 ⟨h.bel,h.box,h.own,by rw [h.eq,Pl.has_take hr,hf]; simp,h.rows⟩
theorem HavI.yes {w W W4:World} {rows:List (List Pl.V)} {k i:Nat} {x:Pl.V} {a:List Pl.PRow} {v v':Value} (h:HavI w W rows k x i a v) {r:List Pl.V} {u:Value} (hr:rows[i]? = some r) (hf:Pl.hasV k x r = true) (hu:RowsW w w.heap.size 3 vC r u) {W3:World} (hb:Below W.heap.size W W3) (hown:W4.ownsRow (w.heap.size + 1) 32 1 v' (a.length + 1) (sndC a ++ [u])) (hg:W3.grownBy W4 v.ownBlock) :
   HavI w W4 rows k x (i + 1) (a ++ [(r,u)]) v' := by
 have h3 := h.below hb
 refine ⟨below_grown h3.bel hg (fun k hk=>by have := (h3.own.lt k hk).1; omega) h3.bel.size,?_,by simpa [sndC] using hown,by rw [List.map_append,h.eq,Pl.has_take hr,hf]; simp,fun p hp=>?_⟩
 · rw [hg.block _ (lt_of_blk h3.box) (fun e=>by have := (h3.own.lt _ e.symm).1; omega)]
   exact h3.box
 · rcases List.mem_append.1 hp with hp | hp
   · exact h.rows p hp
   · simp at hp; subst hp; exact hu
theorem HavI.mato {w W:World} {rows:List (List Pl.V)} {k i:Nat} {x:Pl.V} {a:List Pl.PRow} {v:Value} (h:HavI w W rows k x i a v):MatO W ((rows.take i).filter (Pl.hasV k x)) v := by
 rw [<- h.eq]
 refine MatO.of (mat_own h.own (fun q hq=>(h.rows q hq).below h.bel)) (fun x n c e=>?_)
 obtain ⟨a',c',e',hc⟩ := own_cap h.own
 rw [e] at e'
 cases e'
 exact hc
theorem havM (rows:List (List Pl.V)) (v1:Value) (k:Nat) (x:Pl.V) (w:World) (h1:MatO w rows v1) (hl:rows.length <= 100000) (hr:∀ r ∈ rows,r.length <= 1000 /\ k < r.length) :
   Calls Tryz.prog 24 #[v1,.int .i64 (k:Nat),.agg #[.int .i64 x.kind,.int .i64 x.n,.string ⟨x.s.toArray⟩]] w fun e w' => Below w.heap.size w w' /\ ∃ v,e = .returned v /\ MatO w' (rows.filter (Pl.hasV k x)) v := by
 have H1 := hide h1
 have HR := hide hr
 have HN := hide (HavI.none w rows k x)
 obtain ⟨a1,c1,rfl,_,_⟩ := h1
 obtain ⟨j0,hj,hj0,hj1,hj2⟩ := info_parts Tryz.infoRow
 have HInr := hide (And.intro hj (And.intro hj0 (And.intro hj1 hj2)))
 have heq := eql_run
 clear hr hj hj0 hj1 hj2
 go_enter Tryz.func24,Tryz.ntmps24
 go_wp2_with fail
 go_loopw [7,8] (fun s7 s8 wr=>∃ (i:Nat) (a:List Pl.PRow),i <= rows.length /\ s8 = .int .i64 (i:Nat) /\ a.length <= i /\ Hid (HavI w wr rows k x i a s7)) (fun _ b _=>rows.length - (intOf b).toNat)
 case atStart=>exact ⟨0,[],Nat.zero_le _,rfl,Nat.zero_le _,HN.out⟩
 case round =>
   obtain ⟨i,a,hi,rfl,hal,HI⟩ := hrel
   obtain ⟨va,vn,vc,rfl⟩ := own_slice HI.out.own
   by_cases hlt:i < rows.length
   · have HRi:Hid (rows[i]? = some rows[i]) := List.getElem?_eq_getElem hlt
     obtain ⟨hrl,hkr⟩ := HR.out _ (List.getElem_mem hlt)
     obtain ⟨_,_,e1,_,k1⟩ := H1.out
     cases e1
     obtain ⟨g1,o1,rfl,z1,m1⟩ := k1 (by rintro rfl; simp at hlt)
     obtain ⟨u1,d1,r1⟩ := m1 i _ HRi.out
     generalize rows[i] = r at *
     obtain ⟨b1,e1,f1⟩ := r1.slice
     subst f1
     have HR1 := hide r1
     obtain ⟨g2,_,e,y1,t0,t1,t2⟩ := r1.val hkr
     cases e
     have HS := hide (Pl.hasV_same (v := x) hkr)
     have hev := eqB_V (r.getD k Pl.nul) x
     have hzb := HI.out.bel.size
     have z1' := Nat.lt_of_lt_of_le z1 hzb
     have y1' := Nat.lt_of_lt_of_le y1 hzb
     have hx0 := lt_of_blk HI.out.box
     have x0 := blk_cell HI.out.box 0
     have x1 := blk_cell HI.out.box 1
     have x2 := blk_cell HI.out.box 2
     simp at x0 x1 x2
     have d1 := (HI.out.bel.cell (p := ⟨g1,o1 + i,none⟩) z1).trans d1
     have t0 := (HI.out.bel.cell (p := ⟨g2,k * 3,none⟩) y1).trans t0
     have t1 := (HI.out.bel.cell (p := ⟨g2,k * 3 + 1,none⟩) y1).trans t1
     have t2 := (HI.out.bel.cell (p := ⟨g2,k * 3 + 2,none⟩) y1).trans t2
     generalize r.getD k Pl.nul = q at *
     clear m1 r1 k1 HN
     cases hsm:Pl.V.same q x with
     | true =>
       rw [hsm] at hev HS
       have hown := HI.out.own
       clear hsm
       go_wp2_with fail
       go_region
       all_goals
         have hownd := own_below (Below.refl _ _).drew hown
         go_wp2_with (at_builtin; refine wpList_append_own_at _ rfl (.tmp 33) (.tmp 38) 29 rfl (w.heap.size + 1) 32 j0 _ 1 24 Tryz.underlying29 HInr.out.1 HInr.out.2.1 HInr.out.2.2.1 HInr.out.2.2.2 rfl (by decide) _ _ _ rfl (hownd.alloc _) ⟨wr.drew.heap.size,0,none⟩ 1 1 [.slice (some ⟨g2,0,none⟩) r.length e1] rfl rfl ?m1 ?m2 ?m3 ?m4 ?m5 ?_)
         case m1 =>
           intro j u hj
           have := news_at wr [.slice (some ⟨g2,0,none⟩) r.length e1] 32 j u hj
           simpa using this
         case m2=>intro x hx; simp at hx; subst hx; rfl
         case m3=>unfold maxLen; omega
         case m4=>omega
         case m5=>simp; omega
         intro v12 w12 hown12 hg12 hnil12 ho12
         have HF := hide (HI.out.yes HRi.out HS.out HR1.out (((Below.refl _ _).alloc (Nat.le_refl _) _).drew) hown12 hg12)
         obtain ⟨ya,yn,yc,rfl⟩ := own_slice hown12
         have hla:(a ++ [(r,Value.slice (some ⟨g2,0,none⟩) r.length e1)]).length <= i + 1 := by simp; omega
         generalize a ++ [(r,Value.slice (some ⟨g2,0,none⟩) r.length e1)] = a' at *
         clear hown12 hg12 hnil12 ho12 hown hownd HI
         go_wp2_with fail
         go_roundw
         case rel=>exact ⟨i + 1,a',by omega,by go_num,hla,HF.out⟩
         case measure=>simp [intOf]; omega
     | false =>
       rw [hsm] at hev HS
       have HF := hide (HI.out.no HRi.out HS.out)
       clear hsm
       go_wp2_with fail
       go_region
       all_goals
         go_wp2_with fail
         go_roundw
         case rel=>exact ⟨i + 1,a,by omega,by go_num,by omega,HF.out.below (Below.refl _ _).drew⟩
         case measure=>simp [intOf]; omega
   · obtain rfl:i = rows.length := by omega
     have hm := HI.out.mato
     rw [List.take_length] at hm
     have HM := hide hm
     clear hm
     go_wp2_with fail
     go_ret
     exact ⟨HI.out.bel,_,rfl,HM.out⟩
end Go.Proofs.YtojdpjpldokjmaaGreatDoor
