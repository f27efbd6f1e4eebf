/- The key of a row: the code. -/
import Derived.Test.YtojdpjpldokjmaaGreatDoorO09
import Derived.Test.YtojdpjpldokjmaaGreatDoorO22
import Derived.Test.YtojdpjpldokjmaaGreatDoorO17
import Derived.Lib.AppendIntMem
import Derived.Lib.ItoaLen
import Derived.Lib.OthersKept
set_option maxHeartbeats 60000000
set_option maxRecDepth 100000
namespace Go.Proofs.YtojdpjpldokjmaaGreatDoor
open Go.RowKit Go.Deep
set_option linter.unusedSimpArgs false
set_option linter.unusedVariables false
structure KeyLib:Prop where
 app:∀ (B n:Nat) (i:Int) (sv:Value) (xs:List Value) (w:World),-9223372036854775808 <= i -> i <= 9223372036854775807 -> w.ownsRow B 5 1 sv n xs -> B <= w.heap.size -> n <= 100000000 -> Lib.TabBelow Tryz.prog B w "internal/strconv.uint64pow10" .u64 Lib.pow10Tab ->
   Calls Tryz.prog 231 #[sv,.int .i64 i,.int .i64 10] w fun e w' => ∃ v',e = .returned v' /\ w'.ownsRow B 5 1 v' (n + (Lib.itoa i).length) (xs ++ byteCells (Lib.itoa i)) /\ Below B w w' /\ Lib.OthersKept 5 none w w'
structure KI (w W:World) (acc:List UInt8) (v:Value):Prop where
 bel:Below w.heap.size w W
 own:W.ownsRow w.heap.size 5 1 v acc.length (byteCells acc)
theorem byteCells_app (a b:List UInt8):byteCells (a ++ b) = byteCells a ++ byteCells b := by simp [byteCells]
theorem KI.num (X:KeyLib) {w:World} (hp:PowAt w) (x:Int) (h0 : -9223372036854775808 <= x) (h1:x <= 9223372036854775807) (W:World) (acc:List UInt8) (sv:Value) (h:KI w W acc sv) (hl:acc.length <= 100000000) :
   Calls Tryz.prog 231 #[sv,.int .i64 x,.int .i64 10] W fun e w' => ∃ v',e = .returned v' /\ KI w w' (acc ++ Lib.itoa x) v' /\ ∀ (g:Nat) (C:Array Value),W.heap[g]? = some (Obj.cells C 34) -> w'.heap[g]? = some (Obj.cells C 34) := by
 refine (X.app w.heap.size acc.length x sv (byteCells acc) W h0 h1 h.own h.bel.size hl ((Lib.tabBelow_of_tabIs hp).on h.bel)).mono ?_
 rintro e w' ⟨v',rfl,h2,h3,h4⟩
 refine ⟨v',rfl,⟨h.bel.trans h3,by rw [List.length_append,byteCells_app]; exact h2⟩,fun g C hg=>h4 g _ hg (by simp) (fun c fz e=>?_)⟩
 injection e with _ e2
 exact absurd e2 (by decide)
theorem KI.more {w W W1 W4:World} {acc l:List UInt8} {v v':Value} (h:KI w W acc v) (hb:Below W.heap.size W W1) (hown:W4.ownsRow w.heap.size 5 1 v' (acc.length + l.length) (byteCells acc ++ byteCells l)) (hg:W1.grownBy W4 v.ownBlock):KI w W4 (acc ++ l) v' /\ ∀ (g:Nat) (C:Array Value),W.heap[g]? = some (Obj.cells C 34) -> W4.heap[g]? = some (Obj.cells C 34) := by
 refine ⟨⟨below_grown (h.bel.trans (hb.mono h.bel.size)) hg (fun k hk=>(h.own.lt k hk).1) (Nat.le_trans h.bel.size hb.size),by rw [List.length_append,byteCells_app]; exact hown⟩,fun g C hg' => ?_⟩
 have hz := lt_of_blk hg'
 have h1 := (hb.block g hz).trans hg'
 rw [hg.block g (lt_of_blk h1) (fun e=>?_)]
 · exact h1
 · rcases h.own.2 with ⟨rfl,_⟩ | ⟨g',cap,cur,rfl,_,hh,_⟩
   · cases e
   · simp [Value.ownBlock] at e
     subst e
     rw [hh] at hg'
     injection hg' with hg'
     injection hg' with _ e2
     exact absurd e2 (by decide)
def keyP (v:Pl.V) (j:Nat):List UInt8 := match j with
 | 0=>[]
 | 1=>Lib.itoa v.kind ++ [32]
 | 2=>Lib.itoa v.kind ++ ([32] ++ (Lib.itoa v.n ++ [32]))
 | _=>Lib.itoa v.kind ++ ([32] ++ (Lib.itoa v.n ++ ([32] ++ (Lib.itoa (v.s.length:Nat) ++ [32]))))
theorem rowKeyM (X:KeyLib) (row:List Pl.V) (v:Value) (w:World) (hr:RowsW w w.heap.size 3 vC row v) (hok:Pl.okRow row) (hl:row.length <= 1000) (hp:PowAt w) :
   Calls Tryz.prog 177 #[v] w fun e w' => e = .returned (.string ⟨(Pl.keyR row).toArray⟩) /\ Below w.heap.size w w' := by
 have HR0 := hide hr
 have HOk := hide hok
 have HApp := hide (fun (x:Int) (h0 : -9223372036854775808 <= x) (h1:x <= 9223372036854775807) (W:World) (acc:List UInt8) (sv:Value) (h:KI w W acc sv) (hl:acc.length <= 100000000)=>KI.num X hp x h0 h1 W acc sv h hl)
 have HIl:Hid (∀ x:Int,-9223372036854775808 <= x -> x <= 9223372036854775807 -> (Lib.itoa x).length <= 21) := fun x h0 h1=>Lib.itoa_length_le x h0 h1
 obtain ⟨i0,hi,hi0,hi1,hi2⟩ := info_parts Tryz.infoByte
 have HInf := hide (And.intro hi (And.intro hi0 (And.intro hi1 hi2)))
 clear hi hi0 hi1 hi2 hok hp X
 obtain ⟨ra,rc,rfl,_⟩ := hr
 go_enter Tryz.func177,Tryz.ntmps177
 go_wp2_with fail
 go_loopw [3,10] (fun s3 s10 wr=>∃ (i:Nat) (acc:List UInt8),i <= row.length /\ s10 = .int .i64 (i:Nat) /\ acc.length <= i * 150 /\ Hid (KI w wr acc s3 /\ acc = Pl.keyR (row.take i))) (fun _ a _=>row.length - (intOf a).toNat)
 case atStart=>exact ⟨0,[],Nat.zero_le _,rfl,Nat.zero_le _,⟨Below.refl _ _,World.ownsRow_nil _ _ _ _⟩,rfl⟩
 case round =>
   obtain ⟨i,acc,hi,rfl,hal,HI⟩ := hrel
   obtain ⟨sa,sc,rfl⟩ := own_slice1 HI.out.1.own
   have hbI := HI.out.1.bel
   by_cases hlt:i < row.length
   · have hv:row[i]? = some row[i] := List.getElem?_eq_getElem hlt
     obtain ⟨g,cap,e0,hg,q0,q1,q2⟩ := (HR0.out.keep (fun k hk=>hbI.block k hk)).val hlt
     cases e0
     have hgd:row.getD i Pl.nul = row[i] := by rw [List.getD_eq_getElem?_getD,hv]; rfl
     rw [hgd] at q0 q1 q2
     have hov := HOk.out _ (List.getElem_mem hlt)
     have HTk:Hid (row.take (i + 1) = row.take i ++ [row[i]]) := (List.take_append_getElem hlt).symm
     have hgz:g < wr.heap.size := Nat.lt_of_lt_of_le hg hbI.size
     generalize row[i] = vv at *
     obtain ⟨vk,vn,vs⟩ := vv
     have hk0 := hov.kind
     have hn0 := hov.range
     have hs0:vs.length <= 40 := by rcases hov with ⟨_,_,h⟩ | ⟨_,h,_⟩ | ⟨_,_,h⟩ | ⟨_,_,h⟩ <;> simp at h <;> simp [h]
     simp at q0 q1 q2 hk0 hn0
     clear hv hgd hov hbI
     go_wp2_with fail
     have HS0:Hid (KI w (wr.alloc (.cells #[.int .i64 vk,.int .i64 vn,.string ⟨vs.toArray⟩] 34)) acc (.slice sa acc.length sc) /\ acc = acc ++ keyP ⟨vk,vn,vs⟩ 0 /\ (wr.alloc (.cells #[.int .i64 vk,.int .i64 vn,.string ⟨vs.toArray⟩] 34)).heap[wr.heap.size]? = some (.cells #[.int .i64 vk,.int .i64 vn,.string ⟨vs.toArray⟩] 34)) :=
       ⟨⟨HI.out.1.bel.alloc HI.out.1.bel.size _,own_below ((Below.refl _ _).alloc (Nat.le_refl _) _) HI.out.1.own⟩,by simp [keyP],blk_new _ _⟩
     have HA:Hid (acc = Pl.keyR (row.take i)) := HI.out.2
     generalize wr.heap.size = g5 at *
     generalize wr.alloc (.cells #[.int .i64 vk,.int .i64 vn,.string ⟨vs.toArray⟩] 34) = W1 at *
     have ix0:∀ w,(Instr.index 347 (.agg #[.int .i64 vk,.int .i64 vn,.int .i64 (vs.length:Nat)]) (.int .i64 0)).run Tryz.prog w = .ok (.int .i64 vk) w := fun _=>by kernel_rfl
     have ix1:∀ w,(Instr.index 347 (.agg #[.int .i64 vk,.int .i64 vn,.int .i64 (vs.length:Nat)]) (.int .i64 1)).run Tryz.prog w = .ok (.int .i64 vn) w := fun _=>by kernel_rfl
     have ix2:∀ w,(Instr.index 347 (.agg #[.int .i64 vk,.int .i64 vn,.int .i64 (vs.length:Nat)]) (.int .i64 2)).run Tryz.prog w = .ok (.int .i64 (vs.length:Nat)) w := fun _=>by kernel_rfl
     clear q0 q1 q2 HI
     go_loopw [3,22] (fun s3 s22 wr2=>∃ (j:Nat) (acc2:List UInt8),j <= 3 /\ s22 = .int .i64 (j:Nat) /\ acc2.length <= i * 150 + j * 30 /\ Hid (KI w wr2 acc2 s3 /\ acc2 = acc ++ keyP ⟨vk,vn,vs⟩ j /\ wr2.heap[g5]? = some (.cells #[.int .i64 vk,.int .i64 vn,.string ⟨vs.toArray⟩] 34))) (fun _ a _=>3 - (intOf a).toNat)
     case atStart=>exact ⟨0,acc,Nat.zero_le _,rfl,by omega,HS0.out⟩
     case round =>
       obtain ⟨j,acc2,hj3,rfl,hal2,HK⟩ := hrel
       obtain ⟨xa,xc,rfl⟩ := own_slice1 HK.out.1.own
       clear HS0
       by_cases hlt2:j < 3
       · have hj:j = 0 \/ j = 1 \/ j = 2 := by omega
         rcases hj with hj | hj | hj
         · obtain rfl:j = 0 := hj
           have HR := hide (HApp.out vk (by omega) (by omega) wr acc2 _ HK.out.1 (by omega))
           have hl2 := HIl.out vk (by omega) (by omega)
           go_wp2_with fail
           refine (unhide HR).mono ?_
           rintro e w2 ⟨v2,rfl,h2,g2⟩
           obtain ⟨v2a,v2c,rfl⟩ := own_slice1 h2.own
           have HK2 := hide h2
           have HG2 := hide (g2 _ _ HK.out.2.2)
           have hown2 := h2.own
           have hz2' := h2.bel.size
           clear h2 g2 HR
           generalize hn2:(acc2 ++ Lib.itoa vk).length = n2 at *
           have hn2':n2 <= acc2.length + 21 := by rw [<- hn2,List.length_append]; omega
           have HN2 := hide hn2
           clear hn2
           go_wp2_with (at_builtin; refine wpList_append_own_at _ rfl (.tmp 28) (.tmp 29) 83 rfl w.heap.size 5 i0 _ 1 1 Tryz.underlying83 HInf.out.1 HInf.out.2.1 HInf.out.2.2.1 HInf.out.2.2.2 rfl (by decide) _ _ _ rfl (hown2.alloc _) ⟨w2.heap.size,0,none⟩ 1 1 [.int .u8 32] rfl rfl ?c01 ?c02 ?c03 ?c04 ?c05 ?_)
           case c01=>exact news_at w2 [.int .u8 32] 5
           case c02=>intro x hx; simp at hx; subst hx; rfl
           case c03=>unfold maxLen; omega
           case c04=>omega
           case c05=>simp; omega
           intro v3 w3 hown3 hg3 hnil3 ho3
           have h3 := HK2.out.more (l := [32]) ((Below.refl _ _).alloc (Nat.le_refl _) (.cells #[.int .u8 32] 5)) (by rw [HN2.out]; exact hown3) hg3
           have HF:Hid (KI w w3 ((acc2 ++ Lib.itoa vk) ++ [32]) v3 /\ ((acc2 ++ Lib.itoa vk) ++ [32]) = acc ++ keyP ⟨vk,vn,vs⟩ 1 /\ w3.heap[g5]? = some (.cells #[.int .i64 vk,.int .i64 vn,.string ⟨vs.toArray⟩] 34)) := by
             refine ⟨h3.1,?_,h3.2 _ _ HG2.out⟩
             rw [HK.out.2.1]
             simp [keyP]
           have hla:((acc2 ++ Lib.itoa vk) ++ [32]).length <= i * 150 + 1 * 30 := by rw [List.length_append,HN2.out]; simp; omega
           obtain ⟨v3a,v3c,rfl⟩ := own_slice1 h3.1.own
           generalize (acc2 ++ Lib.itoa vk) ++ [32] = acc3 at *
           clear h3 hown3 hg3 hnil3 ho3 hown2 HK2 HG2 HK HN2
           go_wp2_with fail
           go_roundw
           case rel=>exact ⟨1,acc3,by omega,rfl,hla,HF.out⟩
           case measure=>simp [intOf]
         · obtain rfl:j = 1 := hj
           have HR := hide (HApp.out vn (by omega) (by omega) wr acc2 _ HK.out.1 (by omega))
           have hl2 := HIl.out vn (by omega) (by omega)
           go_wp2_with fail
           refine (unhide HR).mono ?_
           rintro e w2 ⟨v2,rfl,h2,g2⟩
           obtain ⟨v2a,v2c,rfl⟩ := own_slice1 h2.own
           have HK2 := hide h2
           have HG2 := hide (g2 _ _ HK.out.2.2)
           have hown2 := h2.own
           have hz2' := h2.bel.size
           clear h2 g2 HR
           generalize hn2:(acc2 ++ Lib.itoa vn).length = n2 at *
           have hn2':n2 <= acc2.length + 21 := by rw [<- hn2,List.length_append]; omega
           have HN2 := hide hn2
           clear hn2
           go_wp2_with (at_builtin; refine wpList_append_own_at _ rfl (.tmp 28) (.tmp 29) 83 rfl w.heap.size 5 i0 _ 1 1 Tryz.underlying83 HInf.out.1 HInf.out.2.1 HInf.out.2.2.1 HInf.out.2.2.2 rfl (by decide) _ _ _ rfl (hown2.alloc _) ⟨w2.heap.size,0,none⟩ 1 1 [.int .u8 32] rfl rfl ?c11 ?c12 ?c13 ?c14 ?c15 ?_)
           case c11=>exact news_at w2 [.int .u8 32] 5
           case c12=>intro x hx; simp at hx; subst hx; rfl
           case c13=>unfold maxLen; omega
           case c14=>omega
           case c15=>simp; omega
           intro v3 w3 hown3 hg3 hnil3 ho3
           have h3 := HK2.out.more (l := [32]) ((Below.refl _ _).alloc (Nat.le_refl _) (.cells #[.int .u8 32] 5)) (by rw [HN2.out]; exact hown3) hg3
           have HF:Hid (KI w w3 ((acc2 ++ Lib.itoa vn) ++ [32]) v3 /\ ((acc2 ++ Lib.itoa vn) ++ [32]) = acc ++ keyP ⟨vk,vn,vs⟩ 2 /\ w3.heap[g5]? = some (.cells #[.int .i64 vk,.int .i64 vn,.string ⟨vs.toArray⟩] 34)) := by
             refine ⟨h3.1,?_,h3.2 _ _ HG2.out⟩
             rw [HK.out.2.1]
             simp [keyP]
           have hla:((acc2 ++ Lib.itoa vn) ++ [32]).length <= i * 150 + 2 * 30 := by rw [List.length_append,HN2.out]; simp; omega
           obtain ⟨v3a,v3c,rfl⟩ := own_slice1 h3.1.own
           generalize (acc2 ++ Lib.itoa vn) ++ [32] = acc3 at *
           clear h3 hown3 hg3 hnil3 ho3 hown2 HK2 HG2 HK HN2
           go_wp2_with fail
           go_roundw
           case rel=>exact ⟨2,acc3,by omega,rfl,hla,HF.out⟩
           case measure=>simp [intOf]
         · obtain rfl:j = 2 := hj
           have HR := hide (HApp.out ((vs.length:Nat):Int) (by omega) (by omega) wr acc2 _ HK.out.1 (by omega))
           have hl2 := HIl.out ((vs.length:Nat):Int) (by omega) (by omega)
           go_wp2_with fail
           refine (unhide HR).mono ?_
           rintro e w2 ⟨v2,rfl,h2,g2⟩
           obtain ⟨v2a,v2c,rfl⟩ := own_slice1 h2.own
           have HK2 := hide h2
           have HG2 := hide (g2 _ _ HK.out.2.2)
           have hown2 := h2.own
           have hz2' := h2.bel.size
           clear h2 g2 HR
           generalize hn2:(acc2 ++ Lib.itoa ((vs.length:Nat):Int)).length = n2 at *
           have hn2':n2 <= acc2.length + 21 := by rw [<- hn2,List.length_append]; omega
           have HN2 := hide hn2
           clear hn2
           go_wp2_with (at_builtin; refine wpList_append_own_at _ rfl (.tmp 28) (.tmp 29) 83 rfl w.heap.size 5 i0 _ 1 1 Tryz.underlying83 HInf.out.1 HInf.out.2.1 HInf.out.2.2.1 HInf.out.2.2.2 rfl (by decide) _ _ _ rfl (hown2.alloc _) ⟨w2.heap.size,0,none⟩ 1 1 [.int .u8 32] rfl rfl ?c21 ?c22 ?c23 ?c24 ?c25 ?_)
           case c21=>exact news_at w2 [.int .u8 32] 5
           case c22=>intro x hx; simp at hx; subst hx; rfl
           case c23=>unfold maxLen; omega
           case c24=>omega
           case c25=>simp; omega
           intro v3 w3 hown3 hg3 hnil3 ho3
           have h3 := HK2.out.more (l := [32]) ((Below.refl _ _).alloc (Nat.le_refl _) (.cells #[.int .u8 32] 5)) (by rw [HN2.out]; exact hown3) hg3
           have HF:Hid (KI w w3 ((acc2 ++ Lib.itoa ((vs.length:Nat):Int)) ++ [32]) v3 /\ ((acc2 ++ Lib.itoa ((vs.length:Nat):Int)) ++ [32]) = acc ++ keyP ⟨vk,vn,vs⟩ 3 /\ w3.heap[g5]? = some (.cells #[.int .i64 vk,.int .i64 vn,.string ⟨vs.toArray⟩] 34)) := by
             refine ⟨h3.1,?_,h3.2 _ _ HG2.out⟩
             rw [HK.out.2.1]
             simp [keyP]
           have hla:((acc2 ++ Lib.itoa ((vs.length:Nat):Int)) ++ [32]).length <= i * 150 + 3 * 30 := by rw [List.length_append,HN2.out]; simp; omega
           obtain ⟨v3a,v3c,rfl⟩ := own_slice1 h3.1.own
           generalize (acc2 ++ Lib.itoa ((vs.length:Nat):Int)) ++ [32] = acc3 at *
           clear h3 hown3 hg3 hnil3 ho3 hown2 HK2 HG2 HK HN2
           go_wp2_with fail
           go_roundw
           case rel=>exact ⟨3,acc3,by omega,rfl,hla,HF.out⟩
           case measure=>simp [intOf]
       · obtain rfl:j = 3 := by omega
         have hbx := HK.out.2.2
         have x2 := blk_cell hbx 2
         simp at x2
         have hg5 := lt_of_blk hbx
         have hown2 := HK.out.1.own
         have hz2' := HK.out.1.bel.size
         clear hbx
         go_wp2_with (at_builtin; refine Lib.wpList_append_own_string _ rfl (.tmp 32) (.tmp 34) 83 9 rfl w.heap.size 5 i0 Tryz.underlying83 Tryz.underlying9 HInf.out.1 HInf.out.2.1 HInf.out.2.2.1 HInf.out.2.2.2 _ _ _ rfl hown2 ⟨vs.toArray⟩ rfl ?d3 ?d4 ?d5 ?_)
         case d3=>unfold maxLen; have:(⟨vs.toArray⟩:ByteArray).size = vs.length := rfl; omega
         case d4=>first | omega | (have:(⟨vs.toArray⟩:ByteArray).size = vs.length := rfl; omega) | (simp; omega)
         case d5=>first | omega | (have:(⟨vs.toArray⟩:ByteArray).size = vs.length := rfl; omega)
         intro v3 w3 hown3 hg3 _
         have h3 := HK.out.1.more (l := vs) (Below.refl _ _) (by simpa [Lib.strCells,byteCells] using hown3) hg3
         have HF:Hid (KI w w3 (acc2 ++ vs) v3 /\ acc2 ++ vs = Pl.keyR (row.take (i + 1))) := by
           refine ⟨h3.1,?_⟩
           rw [HTk.out,HK.out.2.1,HA.out]
           simp [Pl.keyR,Pl.keyV,keyP]
         have hla:(acc2 ++ vs).length <= (i + 1) * 150 := by rw [List.length_append]; omega
         obtain ⟨v3a,v3c,rfl⟩ := own_slice1 h3.1.own
         generalize acc2 ++ vs = acc3 at *
         clear h3 hown3 hg3 hown2 HK x2
         go_wp2_with fail
         go_roundw
         case rel=>exact ⟨i + 1,acc3,by omega,by go_num,hla,HF.out⟩
         case measure=>simp [intOf]; omega
   · obtain rfl:i = row.length := by omega
     have HE:Hid (acc = Pl.keyR row) := by have := HI.out.2; rwa [List.take_length] at this
     have HBe := hide HI.out.1.bel
     have hcv := conv_own HI.out.1.own
     clear hbI HI
     go_wp2_with fail
     go_ret
     exact ⟨by rw [<- HE.out]; rfl,HBe.out⟩
end Go.Proofs.YtojdpjpldokjmaaGreatDoor
