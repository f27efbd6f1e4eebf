/- Rows in memory that a call owns. -/
import Derived.Test.YtojdpjpldokjmaaGreatDoorO01
import Derived.Deep.RegionWith
import Derived.Deep.DeepFit
import Derived.Deep.DeepCutAuto
import Derived.Deep.LoopGhost
import Derived.Deep.Trees
set_option maxHeartbeats 60000000
set_option maxRecDepth 100000
namespace Go.Proofs.YtojdpjpldokjmaaGreatDoor
open Go.RowKit Go.Deep
set_option linter.unusedSimpArgs false
set_option linter.unusedVariables false
theorem Keeps.cell {rb:Nat} {w w':World} (h:Keeps rb w w') {k o:Nat} (hk:k < w.heap.size) (hne:k ≠ rb):w'.cell? ⟨k,o,none⟩ = w.cell? ⟨k,o,none⟩ :=
 World.cell?_of_block (w := w) (h.block k hk hne)
theorem Keeps.frozen {rb:Nat} {w w':World} (h:Keeps rb w w') {k o:Nat} (hk:k < w.heap.size) (hne:k ≠ rb):w'.frozen? ⟨k,o,none⟩ = w.frozen? ⟨k,o,none⟩ :=
 World.frozen?_of_block (w := w) (h.block k hk hne)
theorem blk_new' (w:World) (o:Obj) (n:Nat) (hn:n = w.heap.size):(w.alloc o).heap[n]? = some o := by subst hn; exact blk_new w o
theorem size_set (w:World) (a:Addr) (v:Value):(w.setCell a v).heap.size = w.heap.size := by simp [World.setCell]
theorem own_row {w:World} {base:Nat} {e:TypeId} {size n:Nat} {v:Value} {xs:List Value} (h:w.ownsRow base e size v n xs):∀ k,v.ownBlock = some k -> ∃ cur,w.heap[k]? = some (.cells cur e (0,0)) := by
 intro k hk
 rcases h.2 with ⟨rfl,_⟩ | ⟨g,cap,cur,rfl,_,hh,_⟩
 · cases hk
 · simp [Value.ownBlock] at hk; subst hk; exact ⟨cur,hh⟩
theorem Keeps.grown {rb:Nat} {w a b:World} {row:Option Nat} (h:Keeps rb w a) (hg:a.grownBy b row) (hr:∀ k,row = some k -> w.heap.size <= k):Keeps rb w b :=
 ⟨hg.os.trans h.os,hg.tape.trans h.tape,hg.output.trans h.output,Nat.le_trans h.size hg.size,fun i hi hne=>(hg.block i (Nat.lt_of_lt_of_le hi h.size) (fun e=>by have := hr i e.symm; omega)).trans (h.block i hi hne)⟩
theorem own_keeps {w w':World} {rb base:Nat} {e:TypeId} {size n:Nat} {v:Value} {xs:List Value} (hk:Keeps rb w w') (hb:rb < base) (h:w.ownsRow base e size v n xs):w'.ownsRow base e size v n xs := by
 obtain ⟨h1,h2⟩ := h
 refine ⟨h1,?_⟩
 rcases h2 with h2 | ⟨g,cap,cur,hv,hg,hh,r⟩
 · exact .inl h2
 · exact .inr ⟨g,cap,cur,hv,hg,hk.blk (by omega) hh,r⟩
theorem own_slice {w:World} {base:Nat} {e:TypeId} {size n:Nat} {v:Value} {xs:List Value} (h:w.ownsRow base e size v n xs):∃ a m c,v = .slice a m c := by
 rcases h.2 with ⟨rfl,_⟩ | ⟨g,cap,cur,rfl,_⟩
 · exact ⟨_,_,_,rfl⟩
 · exact ⟨_,_,_,rfl⟩
theorem addr_add (n j:Nat):(⟨n,0,none⟩:Addr).add j = ⟨n,j,none⟩ := by
 unfold Addr.add; split <;> simp_all
theorem news_at (w:World) (C:List Value) (t:TypeId):∀ j u,C[j]? = some u -> (w.alloc (.cells C.toArray t)).cell? ((⟨w.heap.size,0,none⟩:Addr).add j) = some u := by
 intro j u hj
 rw [addr_add,blk_cell (blk_new w _)]
 simpa using hj
theorem Tryz.infoByte:(Tryz.prog.info? 5).map (fun i=>(i.zero,i.size,i.bytes)) = some (some (.int .u8 0),1,1) := by kernel_rfl
def byteCells (l:List UInt8):List Value := l.map (fun c=>Value.int .u8 c.toNat)
theorem own_slice1 {w:World} {base:Nat} {e:TypeId} {size n:Nat} {v:Value} {xs:List Value} (h:w.ownsRow base e size v n xs):∃ a c,v = .slice a n c := by
 rcases h.2 with ⟨rfl,rfl⟩ | ⟨g,cap,cur,rfl,_⟩
 · exact ⟨none,0,rfl⟩
 · exact ⟨_,_,rfl⟩
theorem conv_own {w:World} {base c:Nat} {a:Option Addr} {l:List UInt8} (h:w.ownsRow base 5 1 (.slice a l.length c) l.length (byteCells l)) :
   (convert 83 9 (.slice a l.length c)).run Tryz.prog w = .ok (.string ⟨l.toArray⟩) w := by
 rcases h.2 with ⟨e,h0⟩ | ⟨g,cap,cur,e,_,_⟩
 · injection e with e1 e2 e3
   subst e1
   have:l = [] := by simpa using h0
   subst this
   exact run_convert_bytes_nil (P := Tryz.prog) w 83 5 Tryz.underlying83 Tryz.underlying5 _ _ 9 Tryz.underlying9
 · injection e with e1 e2 e3
   subst e1
   have hc := h.cells (g := g) rfl
   have := run_convert_bytes_arg (P := Tryz.prog) w 83 5 Tryz.underlying83 Tryz.underlying5 g 0 l.length c (l.map (fun c=>(c.toNat:Int))) (by simp) (by
     intro i hi
     have h2 := hc i (.int .u8 l[i].toNat) (by unfold byteCells; simp [hi])
     have hadd:(⟨g,0,none⟩:Addr).add i = ⟨g,0 + i,none⟩ := by unfold Addr.add; split <;> simp_all
     rw [hadd] at h2
     rw [h2]
     simp [List.getD_eq_getElem?_getD,hi]) 9 Tryz.underlying9
   rw [this]
   unfold strOfNums
   rw [List.map_map,show l.map ((fun n:Int=>UInt8.ofNat n.toNat) ∘ fun c:UInt8=>(c.toNat:Int)) = l from (List.map_congr_left (fun c _=>by simp)).trans (List.map_id l)]
theorem closed_any (l:List UInt8) (v:Value) (k:Int) (base:Nat) (w:World) (hl:l.length <= 1048576) (hown:w.ownsRow base 5 1 v l.length (byteCells l)) :
   Calls Tryz.prog 207 #[v,.int .i64 k] w fun e w' => e = .returned (if 40 < l.length then .tuple #[Pl.tok0,.int .i64 0] else .tuple #[.agg #[.int .i64 3,.int .i64 0,.string ⟨l.toArray⟩],.int .i64 k]) /\ Below w.heap.size w w' := by
 obtain ⟨a,c,rfl⟩ := own_slice1 hown
 by_cases h40:40 < l.length
 · rw [if_pos h40]
   clear hown
   go_enter Tryz.func207,Tryz.ntmps207
   go_wp2_with fail
   refine bodyPost_ret (v := .tuple #[Pl.tok0,.int .i64 0]) ?_ rfl ⟨rfl,(Below.refl _ _).alloc (Nat.le_refl _) _⟩
   simp [results,Tryz.results207,go_sem,Pl.tok0]
 · rw [if_neg h40]
   have hcv := conv_own (hown.alloc (.cells #[.int .i64 0,.int .i64 0,.string ⟨#[]⟩] 180))
   clear hown
   go_enter Tryz.func207,Tryz.ntmps207
   go_wp2_with fail
   refine bodyPost_ret (v := .tuple #[.agg #[.int .i64 3,.int .i64 0,.string ⟨l.toArray⟩],.int .i64 k]) ?_ rfl ⟨rfl,?_⟩
   · simp [results,Tryz.results207,go_sem]
   · exact (Below.refl _ _).alloc (Nat.le_refl _) _
def litIn (s:ByteArray) (k:Nat) (acc:List UInt8):Prop := Pl.litTok [] (Pl.from_ s 1) = Pl.litTok acc (Pl.from_ s k)
theorem litIn_plain {s:ByteArray} {k:Nat} {acc:List UInt8} (hlt:k < s.size) (h:litIn s k acc) (hc:s[k].toNat ≠ 39):litIn s (k + 1) (acc ++ [s[k]]) := by
 unfold litIn at *
 rw [h,Pl.from_lt s k hlt]
 by_cases h2:k + 1 < s.size
 · rw [Pl.from_lt s (k + 1) h2,Pl.litTok,if_neg hc]
 · rw [Pl.from_ge s (k + 1) (by omega)]
   simp [Pl.litTok,hc]
theorem litIn_two {s:ByteArray} {k:Nat} {acc:List UInt8} (hlt:k + 1 < s.size) (h:litIn s k acc) (hc:s[k].toNat = 39) (hd:s[k + 1].toNat = 39):litIn s (k + 2) (acc ++ [s[k + 1]]) := by
 unfold litIn at *
 rw [h,Pl.from_lt s k (by omega),Pl.from_lt s (k + 1) hlt,Pl.litTok,if_pos hc,if_pos hd,byte39 hc,byte39 hd]
theorem litIn_end {s:ByteArray} {k:Nat} {acc:List UInt8} (hlt:k < s.size) (h:litIn s k acc) (hc:s[k].toNat = 39) (hd:¬ k + 1 < s.size \/ ∃ h:k + 1 < s.size,s[k + 1].toNat ≠ 39) :
   Pl.litTok [] (Pl.from_ s 1) = (if 40 < acc.length then Pl.bad else ⟨3,0,acc⟩,Pl.from_ s (k + 1)) := by
 unfold litIn at h
 rw [h,Pl.from_lt s k hlt]
 rcases hd with hd | ⟨h2,hd⟩
 · rw [Pl.from_ge s (k + 1) (by omega),Pl.litTok,if_pos hc]
 · rw [Pl.from_lt s (k + 1) h2,Pl.litTok,if_pos hc,if_neg hd]
theorem litIn_none {s:ByteArray} {k:Nat} {acc:List UInt8} (hlt:¬ k < s.size) (h:litIn s k acc):(Pl.litTok [] (Pl.from_ s 1)).1.k = 99 := by
 unfold litIn at h
 rw [h,Pl.from_ge s k (by omega),Pl.litTok]; rfl
theorem pre2 (s:ByteArray) (k:Nat) (hk:k < s.size) (hc:s[k].toNat = 39):List.isPrefixOf [39,39] (s.extract k s.size).data.toList = true ↔ ∃ h:k + 1 < s.size,s[k + 1].toNat = 39 := by
 have e:(s.extract k s.size).data.toList = Pl.from_ s k := by
   rw [ext_list,List.take_of_length_le (by simp)]; rfl
 rw [e,Pl.from_lt s k hk]
 by_cases h2:k + 1 < s.size
 · rw [Pl.from_lt s (k + 1) h2]
   simp only [List.isPrefixOf,Bool.and_eq_true,beq_iff_eq]
   constructor
   · rintro ⟨_,h,_⟩; exact ⟨h2,by rw [<- h]; rfl⟩
   · rintro ⟨_,h⟩; exact ⟨(byte39 hc).symm,(byte39 h).symm,trivial⟩
 · rw [Pl.from_ge s (k + 1) (by omega)]
   simp [List.isPrefixOf,h2]
theorem push_byte {w wr w2:World} {acc:List UInt8} {c:UInt8} {v v':Value} {C:Array Value} {t:TypeId} {X:Obj} (hown:wr.ownsRow (w.heap.size + 1) 5 1 v acc.length (byteCells acc)) (hbx:wr.heap[w.heap.size]? = some X) (hW:Below w.heap.size w wr)
   (hown2:w2.ownsRow (w.heap.size + 1) 5 1 v' (acc.length + 1) (byteCells acc ++ [.int .u8 (c.toNat:Nat)])) (hg:(wr.alloc (.cells C t)).grownBy w2 v.ownBlock) :
   w2.ownsRow (w.heap.size + 1) 5 1 v' (acc ++ [c]).length (byteCells (acc ++ [c])) /\ Hid (w2.heap[w.heap.size]? = some X) /\ Hid (Below w.heap.size w w2) := by
 have hlt:∀ k,v.ownBlock = some k -> w.heap.size + 1 <= k := fun k e=>(hown.lt k e).1
 have hz := lt_of_blk hbx
 refine ⟨by unfold byteCells at *; simpa using hown2,?_,?_⟩
 · show w2.heap[w.heap.size]? = some X
   rw [hg.block w.heap.size (by simp; omega) (fun e=>by have := hlt _ e.symm; omega)]
   exact blk_alloc hbx _
 · exact (hW.alloc hW.size _).trans ⟨hg.os,hg.tape,hg.output,hg.size,fun i hi=>hg.block i (by simp; omega) (fun e=>by have := hlt _ e.symm; omega)⟩
theorem quoted_any (X:LexLib) (s:ByteArray) (w:World) (hs:s.size <= 1048576) (h1:0 < s.size) :
   Calls Tryz.prog 147 #[.string s] w fun e w' => e = .returned (Pl.cut1 (Pl.litTok [] (Pl.from_ s 1)) s.data.toList) /\ Below w.heap.size w w' := by
 have HX := hide X.pre
 obtain ⟨i0,hi,hz0,hz1,hz2⟩ := info_parts Tryz.infoByte
 clear X
 go_enter Tryz.func147,Tryz.ntmps147
 go_wp2_with fail
 go_loopw [4,5] (fun v a wr=>∃ (k:Nat) (acc:List UInt8),1 <= k /\ k <= s.size /\ acc.length <= k /\ a = .int .i64 k /\ Hid (litIn s k acc) /\ wr.ownsRow (w.heap.size + 1) 5 1 v acc.length (byteCells acc) /\ Hid (wr.heap[w.heap.size]? = some (.cells #[.int .i64 0,.int .i64 0,.string ⟨#[]⟩] 180)) /\ Hid (Below w.heap.size w wr)) (fun _ a _=>s.size - (intOf a).toNat)
 case atStart=>exact ⟨1,[],by omega,by omega,by simp,rfl,rfl,World.ownsRow_nil _ _ _ _,blk_new _ _,(Below.refl _ _).alloc (Nat.le_refl _) _⟩
 case round =>
   obtain ⟨k,acc,hk,hks,hal,rfl,HL,hown,HB,HW⟩ := hrel
   obtain ⟨va,vc,rfl⟩ := own_slice1 hown
   have hzr:w.heap.size < wr.heap.size := lt_of_blk HB.out
   by_cases hlt:k < s.size
   · by_cases hc:s[k].toNat = 39
     · have HP := hide (pre2 s k hlt hc)
       have HC:Hid (∀ w,Calls Tryz.prog 206 #[.string (s.extract k s.size),.string ⟨#[39,39]⟩] w fun e w' => e = .returned (.bool (List.isPrefixOf [39,39] (s.extract k s.size).data.toList)) /\ w' = w) := fun w=>HX.out _ _ w
       have hc':(((s[k].toNat:Nat):Int) == 39) = true := by simp; omega
       cases hp:List.isPrefixOf [39,39] (s.extract k s.size).data.toList
       · have HE := hide (litIn_end hlt HL.out hc (by
           by_cases h2:k + 1 < s.size
           · exact .inr ⟨h2,fun h=>by rw [HP.out.2 ⟨h2,h⟩] at hp; cases hp⟩
           · exact .inl h2))
         have HCL := hide (fun w1 (h:wr = w1)=>h ▸ closed_any acc (.slice va acc.length vc) ((k:Int) + 1) _ wr (by omega) hown)
         have hbx := HB.out
         have b0 := blk_cell hbx 0
         have b1 := blk_cell hbx 1
         have b2 := blk_cell hbx 2
         have bf := blk_frozen hbx
         simp at b0 b1 b2
         clear hown hc
         by_cases h40:40 < acc.length
         · rw [if_pos h40] at HCL
           have HV:Hid (Pl.cut1 (Pl.litTok [] (Pl.from_ s 1)) s.data.toList = .tuple #[Pl.tok0,.int .i64 0]) := Pl.cut1_bad (by rw [HE.out,if_pos h40]; rfl)
           go_wp2_with fail
           refine (unhide HC _).mono ?_
           rintro e w1 ⟨rfl,rfl⟩
           rw [hp]
           go_wp2_with fail
           refine (unhide HCL _ rfl).mono ?_
           rintro e w2 ⟨rfl,hb⟩
           obtain ⟨c1,f1⟩ := bcell hb
           unfold Pl.tok0
           go_wp2_with fail
           refine bodyPost_ret (v := .tuple #[Pl.tok0,.int .i64 0]) ?_ rfl ⟨by rw [HV.out],?_⟩
           · simp [results,Tryz.results147,go_sem,Pl.tok0,c1,hzr,b0,b1,b2]
           · exact below_box (HW.out.trans (hb.mono (by omega))) _ _ _
         · rw [if_neg h40] at HCL
           have HV:Hid (Pl.cut1 (Pl.litTok [] (Pl.from_ s 1)) s.data.toList = .tuple #[.agg #[.int .i64 3,.int .i64 0,.string ⟨acc.toArray⟩],.int .i64 ((k:Int) + 1)]) := by
             unfold Hid
             rw [HE.out,if_neg h40,Pl.cut1_ok (by show (3:Nat) ≠ 99; decide),Pl.cTok_eq]
             simp only
             rw [show (s.data.toList.length - (Pl.from_ s (k + 1)).length:Nat) = k + 1 by unfold Pl.from_; simp; omega]
             rfl
           go_wp2_with fail
           refine (unhide HC _).mono ?_
           rintro e w1 ⟨rfl,rfl⟩
           rw [hp]
           go_wp2_with fail
           refine (unhide HCL _ rfl).mono ?_
           rintro e w2 ⟨rfl,hb⟩
           obtain ⟨c1,f1⟩ := bcell hb
           go_wp2_with fail
           refine bodyPost_ret (v := .tuple #[.agg #[.int .i64 3,.int .i64 0,.string ⟨acc.toArray⟩],.int .i64 ((k:Int) + 1)]) ?_ rfl ⟨by rw [HV.out],?_⟩
           · simp [results,Tryz.results147,go_sem,c1,hzr,b0,b1,b2]
           · exact below_box (HW.out.trans (hb.mono (by omega))) _ _ _
       · obtain ⟨h2,hd⟩ := HP.out.1 hp
         have HR := hide (litIn_two h2 HL.out hc hd)
         clear hc HL hd
         go_wp2_with fail
         refine (unhide HC _).mono ?_
         rintro e w1 ⟨rfl,rfl⟩
         rw [hp]
         go_wp2_with (at_builtin; refine wpList_append_own _ rfl (.tmp 29) (.tmp 33) 83 rfl (w.heap.size + 1) 5 i0 _ 1 1 Tryz.underlying83 hi hz0 hz1 hz2 rfl (by decide) _ _ _ rfl (hown.alloc _) ⟨w1.heap.size,0,none⟩ 1 1 [.int .u8 (s[k + 1].toNat:Nat)] rfl rfl ?c1 ?c2 ?c3 ?c4 ?c5 ?_)
         case c1=>exact news_at w1 [.int .u8 (s[k + 1].toNat:Nat)] 5
         case c2=>intro u hu; simp at hu; subst hu; rfl
         case c3=>unfold maxLen; omega
         case c4=>omega
         case c5=>simp; omega
         intro v' w2 hown2 hg2 hnil
         obtain ⟨ho2,hb2,hw2⟩ := push_byte hown HB.out HW.out hown2 hg2
         clear hown hown2 hg2 hnil
         go_wp2_with fail
         go_roundw
         case rel=>exact ⟨k + 2,acc ++ [s[k + 1]],by omega,by omega,by simp; omega,by go_num,HR,ho2,hb2,hw2⟩
         case measure=>simp [intOf]; omega
     · have HR := hide (litIn_plain hlt HL.out hc)
       have hc':(((s[k].toNat:Nat):Int) == 39) = false := by simp; omega
       clear hc HL
       go_wp2_with (at_builtin; refine wpList_append_own _ rfl (.tmp 29) (.tmp 33) 83 rfl (w.heap.size + 1) 5 i0 _ 1 1 Tryz.underlying83 hi hz0 hz1 hz2 rfl (by decide) _ _ _ rfl (hown.alloc _) ⟨wr.heap.size,0,none⟩ 1 1 [.int .u8 (s[k].toNat:Nat)] rfl rfl ?c1 ?c2 ?c3 ?c4 ?c5 ?_)
       case c1=>exact news_at wr [.int .u8 (s[k].toNat:Nat)] 5
       case c2=>intro u hu; simp at hu; subst hu; rfl
       case c3=>unfold maxLen; omega
       case c4=>omega
       case c5=>simp; omega
       intro v' w2 hown2 hg2 hnil
       obtain ⟨ho2,hb2,hw2⟩ := push_byte hown HB.out HW.out hown2 hg2
       clear hown hown2 hg2 hnil
       go_wp2_with fail
       go_roundw
       case rel=>exact ⟨k + 1,acc ++ [s[k]],by omega,by omega,by simp; omega,by go_num,HR,ho2,hb2,hw2⟩
       case measure=>simp [intOf]; omega
   · have HV := hide (Pl.cut1_bad (l := s.data.toList) (litIn_none hlt HL.out))
     have hbx := HB.out
     have b0 := blk_cell hbx 0
     have b1 := blk_cell hbx 1
     have b2 := blk_cell hbx 2
     have bf := blk_frozen hbx
     simp at b0 b1 b2
     clear hown HL
     go_wp2_with fail
     refine bodyPost_ret (v := .tuple #[Pl.tok0,.int .i64 0]) ?_ rfl ⟨by rw [HV.out],?_⟩
     · simp [results,Tryz.results147,go_sem,Pl.tok0,hzr,b0,b1,b2]
     · exact below_box HW.out _ _ _
end Go.Proofs.YtojdpjpldokjmaaGreatDoor
