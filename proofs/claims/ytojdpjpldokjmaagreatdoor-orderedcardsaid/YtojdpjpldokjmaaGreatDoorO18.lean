/- The library's Grow and Concat at rows of values. -/
import Derived.Test.YtojdpjpldokjmaaGreatDoorO17
import Derived.Lib.AppendZeros
set_option maxHeartbeats 60000000
set_option maxRecDepth 100000
namespace Go.Proofs.YtojdpjpldokjmaaGreatDoor
open Go.RowKit Go.Deep
set_option linter.unusedSimpArgs false
set_option linter.unusedVariables false
theorem growNilM (n:Nat) (hn:n <= 100000) (w:World):Calls Tryz.prog 257 #[.slice none 0 0,.int .i64 ((n:Nat):Int)] w fun e w' => Below w.heap.size w w' /\ ∃ v,e = .returned v /\ w'.ownsRow w.heap.size 34 3 v 0 [] := by
 by_cases h0:n = 0
 · subst h0
   go_enter Tryz.func257,Tryz.ntmps257
   go_wp2_with fail
   go_ret
   exact ⟨Below.refl _ _,_,rfl,World.ownsRow_nil _ _ _ _⟩
 · obtain ⟨i0,hi,hz0,hz1,hz2⟩ := info_parts Tryz.infoVal
   have hrz := fun ty=>Lib.run_append_nil_zeros (P := Tryz.prog) w 32 3 ty 34 i0 (.agg #[.int .i64 0,.int .i64 0,.string ⟨#[]⟩]) .i64 .i64 Tryz.underlying32 (by kernel_rfl) hi hz0 n (by omega) (by rw [hz1]; omega) (by omega) (by rw [hz2]; omega)
   obtain ⟨G,hG⟩:∃ G,G = grownCap w n 0 34 := ⟨_,rfl⟩
   have hGn:n <= G := by rw [hG]; exact grownCap_ge w _ _ _
   have hGm:G <= maxLen := by rw [hG]; exact grownCap_le_maxLen w n 0 _ (by unfold maxLen; omega)
   rw [<- hG] at hrz
   have hG63:G <= 9223372036854775807 := by unfold maxLen at hGm; omega
   have hn0:(0:Int) < ((n:Nat):Int) := by omega
   obtain ⟨C,hC⟩:∃ C,C = Builtin.zeroCells (Value.agg #[.int .i64 0,.int .i64 0,.string ⟨#[]⟩]).cells n ++ Builtin.zeroCells (Value.agg #[.int .i64 0,.int .i64 0,.string ⟨#[]⟩]).cells (G - n) := ⟨_,rfl⟩
   have hCs:C.size = G * 3 := by
     rw [hC,Array.size_append,size_zeroCells,size_zeroCells]
     have:(Value.agg #[.int .i64 0,.int .i64 0,.string ⟨#[]⟩]).cells.size = 3 := rfl
     rw [this,<- Nat.add_mul]
     congr 1
     omega
   rw [<- hC] at hrz
   have HCs := hide hCs
   clear hC hCs hG hi hz0 hz1 hz2
   go_enter Tryz.func257,Tryz.ntmps257
   go_wp2_with (at_builtin; refine Lib.wpList_append_run _ rfl (.tmp 20) (.tmp 21) 32 3 rfl _ _ rfl rfl _ _ (hrz _) ?_)
   go_ret
   refine ⟨((Below.refl _ _).drew).alloc (Nat.le_refl _) _,_,rfl,⟨rfl,.inr ⟨w.heap.size,G,C,rfl,Nat.le_refl _,blk_new' _ _ _ rfl,Nat.zero_le _,hGm,HCs.out,by simp⟩⟩⟩
def RowS (w:World) (hi:Nat) (row:List Pl.V) (v:Value):Prop := ∃ g cap,v = .slice (some ⟨g,0,none⟩) row.length cap /\ g < hi /\ ∀ i u,(rowC row)[i]? = some u -> w.cell? ⟨g,i,none⟩ = some u
theorem RowS.keep {w w':World} {hi:Nat} {row:List Pl.V} {v:Value} (h:RowS w hi row v) (hk:∀ k,k < hi -> w'.heap[k]? = w.heap[k]?):RowS w' hi row v := by
 obtain ⟨g,cap,h1,h2,h3⟩ := h
 exact ⟨g,cap,h1,h2,fun i u hu=>(World.cell?_of_block (hk g h2)).trans (h3 i u hu)⟩
theorem RowS.more {w:World} {hi hi':Nat} {row:List Pl.V} {v:Value} (h:RowS w hi row v) (hk:hi <= hi'):RowS w hi' row v := by
 obtain ⟨g,cap,h1,h2,h3⟩ := h
 exact ⟨g,cap,h1,by omega,h3⟩
theorem RowS.below {w w':World} {row:List Pl.V} {v:Value} (h:RowS w w.heap.size row v) (hb:Below w.heap.size w w'):RowS w' w'.heap.size row v := (h.keep (fun k hk=>hb.block k hk)).more hb.size
theorem RowS.rows {w:World} {hi:Nat} {row:List Pl.V} {v:Value} (h:RowS w hi row v):RowsW w hi 3 vC row v := by
 obtain ⟨g,cap,h1,h2,h3⟩ := h
 exact ⟨_,cap,h1,fun _=>⟨g,rfl,h2,fun i c hc j u hu=>h3 _ _ (flat_at vC 3 (fun _=>rfl) row i j c u hc hu)⟩⟩
theorem own_cells {w:World} {base:Nat} {e:TypeId} {size n:Nat} {g cap:Nat} {xs:List Value} (h:w.ownsRow base e size (.slice (some ⟨g,0,none⟩) n cap) n xs):g < w.heap.size /\ ∀ i u,xs[i]? = some u -> w.cell? ⟨g,i,none⟩ = some u := by
 rcases h.2 with ⟨h,_⟩ | ⟨g',cap',cur,hv,_,hh,_,_,_,ht⟩
 · cases h
 · cases hv
   refine ⟨lt_of_blk hh,fun i u hu=>?_⟩
   rw [<- ht,List.getElem?_take] at hu
   split at hu
   · rw [blk_cell hh]; simpa using hu
   · cases hu
theorem RowS.own {w:World} {base:Nat} {row:List Pl.V} {v:Value} (h:w.ownsRow base 34 3 v row.length (rowC row)) (hne:row ≠ []):RowS w w.heap.size row v := by
 rcases h.2 with ⟨_,h0⟩ | ⟨g,cap,cur,rfl,_⟩
 · exact absurd (List.length_eq_zero_iff.1 h0) hne
 · obtain ⟨h1,h2⟩ := own_cells h
   exact ⟨g,cap,rfl,h1,h2⟩
theorem rowC_one' (row:List Pl.V):∀ u ∈ rowC row,u.oneCell' = true := by
 intro u hu
 unfold rowC at hu
 obtain ⟨x,_,hx⟩ := List.mem_flatMap.1 hu
 exact vC_one x u hx
def PostCat (w:World) (row:List Pl.V) (e:Ending) (w':World):Prop := Below w.heap.size w w' /\ ∃ v,e = .returned v /\ w'.ownsRow w.heap.size 34 3 v row.length (rowC row)
def CatI (w wr:World) (a b:List Pl.V) (i:Nat) (v:Value):Prop := Below w.heap.size w wr /\ wr.ownsRow w.heap.size 34 3 v (if i = 0 then [] else if i = 1 then a else a ++ b).length (rowC (if i = 0 then [] else if i = 1 then a else a ++ b))
theorem concatM (a b:List Pl.V) (av bv:Value) (sb c:Nat) (w:World) (ha:RowS w w.heap.size a av) (hb:RowS w w.heap.size b bv) (hs:w.heap[sb]? = some (.cells #[av,bv] 32)) (hl:a.length + b.length <= 1000) :
   Calls Tryz.prog 227 #[.slice (some ⟨sb,0,none⟩) 2 c] w (PostCat w (a ++ b)) := by
 have HA := hide ha
 have HB := hide hb
 obtain ⟨ga,ca,rfl,hga,_⟩ := ha
 obtain ⟨gb,cb,rfl,hgb,_⟩ := hb
 have hsz := lt_of_blk hs
 have s0 := blk_cell hs 0
 have s1 := blk_cell hs 1
 simp at s0 s1
 have HSb := hide hs
 have hG := growNilM (a.length + b.length) (by omega) w
 rw [Int.natCast_add] at hG
 have HG := hide hG
 clear hG
 have hw1:wrap64 ((a.length:Int) + (b.length:Int)) = a.length + b.length := by unfold wrap64; omega
 obtain ⟨i0,hi,hz0,hz1,hz2⟩ := info_parts Tryz.infoVal
 clear hs
 go_enter Tryz.func227,Tryz.ntmps227
 go_wp2_with fail
 go_loop [3,11] (fun s3 s11=>(s11 = .int .i64 0 /\ s3 = .int .i64 0) \/ (s11 = .int .i64 1 /\ s3 = .int .i64 a.length) \/ (s11 = .int .i64 2 /\ s3 = .int .i64 ((a.length:Int) + (b.length:Int)))) (fun _ a=>2 - (intOf a).toNat)
 case atStart=>exact .inl ⟨rfl,rfl⟩
 case round =>
   rcases hrel with ⟨rfl,rfl⟩ | ⟨rfl,rfl⟩ | ⟨rfl,rfl⟩
   · go_wp2_with fail
     go_round
     case rel=>exact .inr (.inl ⟨rfl,by simp⟩)
     case measure=>simp [intOf]
   · go_wp2_with fail
     go_round
     case rel=>exact .inr (.inr ⟨rfl,rfl⟩)
     case measure=>simp [intOf]
   · go_wp2_with fail
     refine (unhide HG).mono ?_
     rintro e w1 ⟨hb1,v1,rfl,hown1⟩
     have HI0:Hid (CatI w w1 a b 0 v1) := ⟨hb1,by simpa [rowC] using hown1⟩
     obtain ⟨x1a,x1n,x1c,rfl⟩ := own_slice hown1
     clear hb1 hown1 HG
     go_wp2_with fail
     go_loopw [6,27] (fun s6 s27 wr=>∃ i:Nat,i <= 2 /\ s27 = .int .i64 i /\ Hid (CatI w wr a b i s6)) (fun _ s _=>2 - (intOf s).toNat)
     case atStart=>exact ⟨0,by omega,rfl,HI0⟩
     case round =>
       obtain ⟨i,hi2,rfl,HI⟩ := hrel
       clear HI0
       obtain ⟨hbI,hown⟩ := HI.out
       obtain ⟨va,vn,vc,rfl⟩ := own_slice hown
       have hbz := hbI.size
       have hsr := below_blk hbI hsz HSb.out
       have r0 := blk_cell hsr 0
       have r1 := blk_cell hsr 1
       simp at r0 r1
       have hsz' := lt_of_blk hsr
       clear hsr
       have hcases:i = 0 \/ i = 1 \/ i = 2 := by omega
       rcases hcases with rfl | rfl | rfl
       · obtain ⟨g1,c1,hv1,_,hc1⟩ := HA.out.keep (fun k hk=>hbI.block k hk)
         cases hv1
         simp only [if_true] at hown
         clear hbI
         go_wp2_with (at_builtin; refine wpList_append_own _ rfl (.tmp 31) (.tmp 32) 32 rfl w.heap.size 34 i0 _ 3 32 Tryz.underlying32 hi hz0 hz1 hz2 rfl (by decide) _ _ _ rfl hown ⟨ga,0,none⟩ a.length ca (rowC a) rfl ?c0 ?c1 ?c2 ?c3 ?c4 ?c5 ?_)
         case c0=>exact rowC_len a
         case c1=>intro j u hj; rw [addr_add]; exact hc1 j u hj
         case c2=>exact rowC_one' a
         case c3=>unfold maxLen; simp; omega
         case c4=>simp; omega
         case c5=>exact hbz
         intro v' w4 hown4 hg4 hnil
         have HI4:Hid (CatI w w4 a b 1 v') := ⟨below_grown HI.out.1 hg4 (fun k hk=>(hown.lt k hk).1) hbz,by simpa [rowC] using hown4⟩
         clear hown hown4 hg4 hnil
         go_wp2_with fail
         go_roundw
         case rel=>exact ⟨1,by omega,by go_num,HI4⟩
         case measure=>simp [intOf]
       · obtain ⟨g1,c1,hv1,_,hc1⟩ := HB.out.keep (fun k hk=>hbI.block k hk)
         cases hv1
         simp only [if_true,Nat.one_ne_zero,if_false] at hown
         clear hbI
         go_wp2_with (at_builtin; refine wpList_append_own _ rfl (.tmp 31) (.tmp 32) 32 rfl w.heap.size 34 i0 _ 3 32 Tryz.underlying32 hi hz0 hz1 hz2 rfl (by decide) _ _ _ rfl hown ⟨gb,0,none⟩ b.length cb (rowC b) rfl ?c0 ?c1 ?c2 ?c3 ?c4 ?c5 ?_)
         case c0=>exact rowC_len b
         case c1=>intro j u hj; rw [addr_add]; exact hc1 j u hj
         case c2=>exact rowC_one' b
         case c3=>unfold maxLen; omega
         case c4=>omega
         case c5=>exact hbz
         intro v' w4 hown4 hg4 hnil
         have HI4:Hid (CatI w w4 a b 2 v') := ⟨below_grown HI.out.1 hg4 (fun k hk=>(hown.lt k hk).1) hbz,by
           show w4.ownsRow _ _ _ _ (a ++ b).length (rowC (a ++ b))
           rw [rowC_app,List.length_append]; exact hown4⟩
         clear hown hown4 hg4 hnil
         go_wp2_with fail
         go_roundw
         case rel=>exact ⟨2,by omega,by go_num,HI4⟩
         case measure=>simp [intOf]
       · have HF:Hid (wr.ownsRow w.heap.size 34 3 (.slice va vn vc) (a ++ b).length (rowC (a ++ b))) := hown
         have HBf := hide hbI
         clear hbI hown
         go_wp2_with fail
         go_ret
         exact ⟨HBf.out,_,rfl,HF.out⟩
end Go.Proofs.YtojdpjpldokjmaaGreatDoor
namespace Go.Proofs.YtojdpjpldokjmaaGreatDoor.Pl
def fin1 (left:Bool) (n:Nat) (r:List V) (z:List (List V)):List (List V) := if (left && z.isEmpty) = true then [r ++ List.replicate n nul] else z
end Go.Proofs.YtojdpjpldokjmaaGreatDoor.Pl
namespace Go.Proofs.YtojdpjpldokjmaaGreatDoor
open Go.RowKit Go.Deep
set_option linter.unusedSimpArgs false
set_option linter.unusedVariables false
theorem nuls_at:∀ (n i:Nat),i < n * 3 -> (rowC (List.replicate n Pl.nul))[i]? = (vC Pl.nul)[i % 3]?
 | 0,i,h=>by omega
 | n + 1,i,h=>by
   show (vC Pl.nul ++ rowC (List.replicate n Pl.nul))[i]? = _
   by_cases hi:i < 3
   · rw [List.getElem?_append_left (by exact hi),Nat.mod_eq_of_lt hi]
   · rw [List.getElem?_append_right (by show 3 <= i; omega)]
     show (rowC (List.replicate n Pl.nul))[i - 3]? = _
     rw [nuls_at n (i - 3) (by omega)]
     congr 1
     omega
theorem made_nuls (n:Nat):(madeCells #[Value.int .i64 0,.int .i64 0,.string ⟨#[]⟩] (n * 3)).toList = rowC (List.replicate n Pl.nul) := by
 apply List.ext_getElem?
 intro i
 by_cases hi:i < n * 3
 · rw [nuls_at n i hi]
   have h3:i % 3 = 0 \/ i % 3 = 1 \/ i % 3 = 2 := by omega
   unfold madeCells
   simp only [Array.getElem?_toList]
   rcases h3 with h | h | h <;> simp [h,hi,vC,Pl.nul]
 · rw [List.getElem?_eq_none (by unfold madeCells; simp; omega),List.getElem?_eq_none (by rw [rowC_len]; simp; omega)]
theorem nullsM (tn n:Nat) (lf:Bool) (ca:Option Addr) (cc:Nat) (pa:Option Addr) (pn pc:Nat) (w:World) (htn:tn < w.heap.size) (hc:w.cell? ⟨tn,1,none⟩ = some (.slice ca n cc)) (hn:n <= 1000) :
   Calls Tryz.prog 228 #[.agg #[.pointer (some ⟨tn,0,none⟩),.bool lf,.slice pa pn pc]] w (PostCat w (List.replicate n Pl.nul)) := by
 obtain ⟨i0,hi,hz0,hz1,hz2⟩ := info_parts Tryz.infoVal
 go_enter Tryz.func228,Tryz.ntmps228
 go_wp2_with (at_make; refine wpList_make_full _ rfl _ _ 32 rfl w.heap.size 34 i0 (.agg #[.int .i64 0,.int .i64 0,.string ⟨#[]⟩]) 3 Tryz.underlying32 hi hz0 hz1 .i64 .i64 _ _ n rfl rfl rfl rfl ?c1 ?c2 ?c3 ?_)
 case c1=>rw [hz2]; omega
 case c2=>unfold maxLen; omega
 case c3=>simp
 intro w0 hown0 hg0
 have HO:Hid (w0.ownsRow w.heap.size 34 3 (.slice (some ⟨w.heap.size + 1,0,none⟩) n n) (List.replicate n Pl.nul).length (rowC (List.replicate n Pl.nul))) := by
   unfold Hid
   rw [made_nuls] at hown0
   simpa using hown0
 have HB:Hid (Below w.heap.size w w0) := below_grown ((Below.refl _ _).alloc (Nat.le_refl _) _) hg0 (fun k h=>by cases h) (by simp)
 clear hown0 hg0
 go_wp2_with fail
 go_ret
 exact ⟨HB.out,_,rfl,HO.out⟩
structure SrcW (w:World) (hi:Nat) (cols:List Pl.Col) (tn:Nat) (lf:Bool) (c:Pl.T) (qs:List Pl.PRow) (n:Nat) (cv:Value):Prop where
 prog:ProgW w hi cols c cv
 tab:tn < hi
 rows:∃ rv,w.cell? ⟨tn,2,none⟩ = some rv /\ RowsW w hi 1 (fun p=>[p.2]) qs rv
 each:∀ q ∈ qs,RowS w hi q.1 q.2
 cols:∃ ca cc,w.cell? ⟨tn,1,none⟩ = some (.slice ca n cc)
theorem SrcW.keep {w w':World} {hi:Nat} {cols:List Pl.Col} {tn:Nat} {lf:Bool} {c:Pl.T} {qs:List Pl.PRow} {n:Nat} {cv:Value} (h:SrcW w hi cols tn lf c qs n cv) (hk:∀ k,k < hi -> w'.heap[k]? = w.heap[k]?):SrcW w' hi cols tn lf c qs n cv := by
 obtain ⟨h1,h2,⟨rv,h3,h4⟩,h5,⟨ca,cc,h6⟩⟩ := h
 exact ⟨h1.keep hk,h2,⟨rv,(World.cell?_of_block (hk tn h2)).trans h3,h4.keep hk⟩,fun q hq=>(h5 q hq).keep hk,⟨ca,cc,(World.cell?_of_block (hk tn h2)).trans h6⟩⟩
def Joins (wr:World) (base:Nat) (v:Value) (js:List Pl.PRow):Prop := wr.ownsRow base 32 1 v js.length (sndC js) /\ ∀ j ∈ js,wr.ownsRow base 34 3 j.2 j.1.length (rowC j.1) /\ j.1 ≠ []
theorem Joins.below {w w':World} {base:Nat} {v:Value} {js:List Pl.PRow} (h:Joins w base v js) (hb:Below w.heap.size w w'):Joins w' base v js := ⟨own_below hb h.1,fun j hj=>⟨own_below hb (h.2 j hj).1,(h.2 j hj).2⟩⟩
theorem Joins.push {w2 w4:World} {base:Nat} {v v' u:Value} {js:List Pl.PRow} {r:List Pl.V} (h:Joins w2 base v js) (hu:w2.ownsRow base 34 3 u r.length (rowC r)) (hne:r ≠ []) (hown:w4.ownsRow base 32 1 v' (js.length + 1) (sndC js ++ [u])) (hg:w2.grownBy w4 v.ownBlock):Joins w4 base v' (js ++ [(r,u)]) := by
 refine ⟨by simpa [sndC] using hown,fun j hj=>?_⟩
 rcases List.mem_append.1 hj with hj | hj
 · exact ⟨own_other (h.2 j hj).1 h.1 hg (by decide),(h.2 j hj).2⟩
 · simp at hj; subst hj
   exact ⟨own_other hu h.1 hg (by decide),hne⟩
def midJ (acc:List (List Pl.V)) (left:Bool) (n:Nat) (r:List Pl.V) (rest:Pl.Out (List (List Pl.V))):Pl.Out (List (List Pl.V)) -> Pl.Out (List (List Pl.V))
 | .error e=>.error e
 | .ok z=>addR (acc ++ Pl.fin1 left n r z) rest
theorem joinRows_mid {cols:List Pl.Col} {c:Pl.T} {left:Bool} {n:Nat} {qs:List (List Pl.V)} {r:List Pl.V} {rs acc:List (List Pl.V)}:addR acc (Pl.joinRows cols c left n qs (r :: rs)) = midJ acc left n r (Pl.joinRows cols c left n qs rs) (Pl.beside cols c r qs) := by
 rw [Pl.joinRows]
 cases Pl.beside cols c r qs with
 | error e=>rfl
 | ok z =>
   simp only
   cases Pl.joinRows cols c left n qs rs with
   | error e=>rfl
   | ok y=>simp [addR,midJ,Pl.fin1]
theorem beside_err {cols:List Pl.Col} {c:Pl.T} {r q:List Pl.V} {qs:List (List Pl.V)} {e:Nat} (h:Pl.ev cols (r ++ q) c = .error e):Pl.beside cols c r (q :: qs) = .error e := by rw [Pl.beside,h]
theorem beside_yes {cols:List Pl.Col} {c:Pl.T} {r q:List Pl.V} {qs zs:List (List Pl.V)} {v:Pl.V} (h:Pl.ev cols (r ++ q) c = .ok v) (hv:v = Pl.tru true):addR zs (Pl.beside cols c r (q :: qs)) = addR (zs ++ [r ++ q]) (Pl.beside cols c r qs) := by
 rw [Pl.beside,h]
 simp only
 cases Pl.beside cols c r qs with
 | error e=>rfl
 | ok z=>simp only [if_pos hv,addR]; simp
theorem beside_no {cols:List Pl.Col} {c:Pl.T} {r q:List Pl.V} {qs zs:List (List Pl.V)} {v:Pl.V} (h:Pl.ev cols (r ++ q) c = .ok v) (hv:¬ v = Pl.tru true):addR zs (Pl.beside cols c r (q :: qs)) = addR zs (Pl.beside cols c r qs) := by
 rw [Pl.beside,h]
 simp only
 cases Pl.beside cols c r qs with
 | error e=>rfl
 | ok z=>simp only [if_neg hv,addR]
def PostJoin (w:World) (o:Pl.Out (List (List Pl.V))) (e:Ending) (w':World):Prop := Below w.heap.size w w' /\
 ((∃ er,o = .error er /\ e = .returned (.tuple #[.slice none 0 0,.int .i64 (er:Nat)])) \/
  (∃ js v,o = .ok (js.map (·.1)) /\ e = .returned (.tuple #[v,.int .i64 0]) /\ Joins w' w.heap.size v js))
structure JoinO (w wr:World) (O:Obj) (o:Pl.Out (List (List Pl.V))) (cols:List Pl.Col) (c:Pl.T) (lf:Bool) (n:Nat) (qs ps:List Pl.PRow) (i:Nat) (v:Value) (js:List Pl.PRow):Prop where
 bel:Below (w.heap.size + 1) (w.alloc O) wr
 row:Joins wr (w.heap.size + 1) v js
 len:js.length <= i * 26
 ev:o = addR (js.map (·.1)) (Pl.joinRows cols c lf n (qs.map (·.1)) ((ps.drop i).map (·.1)))
structure JoinN (w wr:World) (O:Obj) (o:Pl.Out (List (List Pl.V))) (cols:List Pl.Col) (c:Pl.T) (lf:Bool) (n:Nat) (qs ps:List Pl.PRow) (i b:Nat) (r:List Pl.V) (k:Nat) (v:Value) (js:List Pl.PRow):Prop where
 bel:Below (w.heap.size + 1) (w.alloc O) wr
 row:Joins wr (w.heap.size + 1) v js
 len:js.length <= i * 26 + k
 at_:b <= js.length
 ev:o = midJ ((js.take b).map (·.1)) lf n r (Pl.joinRows cols c lf n (qs.map (·.1)) ((ps.drop (i + 1)).map (·.1))) (addR ((js.drop b).map (·.1)) (Pl.beside cols c r ((qs.drop k).map (·.1))))
theorem low1 {w wr:World} {O:Obj} (h1:Below (w.heap.size + 1) (w.alloc O) wr):Below w.heap.size w wr /\ wr.heap[w.heap.size]? = some O /\ w.heap.size + 1 <= wr.heap.size := by
 have hz := h1.size
 simp at hz
 refine ⟨((Below.refl w.heap.size w).alloc (Nat.le_refl _) O).trans (h1.mono (Nat.le_succ _)),?_,hz⟩
 rw [h1.block _ (Nat.lt_succ_self _)]; exact blk_new _ _
theorem JoinN.fin {w wr:World} {O:Obj} {o:Pl.Out (List (List Pl.V))} {cols:List Pl.Col} {c:Pl.T} {lf:Bool} {n:Nat} {qs ps:List Pl.PRow} {i b:Nat} {r:List Pl.V} {v:Value} {ls:List Pl.PRow} (h:JoinN w wr O o cols c lf n qs ps i b r qs.length v ls):o = addR ((ls.take b).map (·.1) ++ Pl.fin1 lf n r ((ls.drop b).map (·.1))) (Pl.joinRows cols c lf n (qs.map (·.1)) ((ps.drop (i + 1)).map (·.1))) := by
 rw [h.ev,List.drop_length]
 simp [Pl.beside,addR,midJ]
theorem JoinN.done {w wr:World} {O:Obj} {o:Pl.Out (List (List Pl.V))} {cols:List Pl.Col} {c:Pl.T} {lf:Bool} {n:Nat} {qs ps:List Pl.PRow} {i b:Nat} {r:List Pl.V} {v:Value} {ls:List Pl.PRow} (h:JoinN w wr O o cols c lf n qs ps i b r qs.length v ls) (hq:qs.length <= 25) (hne:b < ls.length \/ lf = false):JoinO w wr O o cols c lf n qs ps (i + 1) v ls := by
 refine ⟨h.bel,h.row,by have := h.len; omega,?_⟩
 have hf:Pl.fin1 lf n r ((ls.drop b).map (·.1)) = (ls.drop b).map (·.1) := by
   unfold Pl.fin1
   rw [if_neg]
   rcases hne with hne | hne
   · have:ls.drop b ≠ [] := by intro e; have := congrArg List.length e; simp at this; omega
     simp [List.isEmpty_iff,this]
     intro _; omega
   · simp [hne]
 rw [h.fin,hf,<- List.map_append,List.take_append_drop]
theorem JoinN.left {w wr w':World} {O:Obj} {o:Pl.Out (List (List Pl.V))} {cols:List Pl.Col} {c:Pl.T} {n:Nat} {qs ps:List Pl.PRow} {i:Nat} {r:List Pl.V} {v v' u:Value} {ls:List Pl.PRow} (h:JoinN w wr O o cols c true n qs ps i ls.length r qs.length v ls) (hq:qs.length <= 25) (hb:Below (w.heap.size + 1) (w.alloc O) w') (hj:Joins w' (w.heap.size + 1) v' (ls ++ [(r ++ List.replicate n Pl.nul,u)])):JoinO w w' O o cols c true n qs ps (i + 1) v' (ls ++ [(r ++ List.replicate n Pl.nul,u)]) := by
 refine ⟨hb,hj,by have := h.len; simp; omega,?_⟩
 have hf:Pl.fin1 true n r ((ls.drop ls.length).map (·.1)) = [r ++ List.replicate n Pl.nul] := by simp [Pl.fin1]
 rw [h.fin,hf]
 simp
theorem joinM (X:MachLib) (cols:List Pl.Col) (c:Pl.T) (lf:Bool) (n:Nat) (qs ps:List Pl.PRow) (tn:Nat) (cv rv:Value) (w:World) (hsrc:SrcW w w.heap.size cols tn lf c qs n cv) (hrows:RowsW w w.heap.size 1 (fun p=>[p.2]) ps rv) (heach:∀ p ∈ ps,RowS w w.heap.size p.1 p.2) (hf:Pl.Fine cols c) (hfine:∀ p ∈ ps,∀ q ∈ qs,Pl.FineRow cols (p.1 ++ q.1)) (hpl:∀ p ∈ ps,p.1.length <= 100) (hql:∀ q ∈ qs,q.1.length <= 100 /\ q.1 ≠ []) (hn1:1 <= n) (hn:n <= 100) (hpn:ps.length <= 20000) (hqn:qs.length <= 25) :
   Calls Tryz.prog 173 #[.agg #[.pointer (some ⟨tn,0,none⟩),.bool lf,cv],rv] w (PostJoin w (Pl.joinRows cols c lf n (qs.map (·.1)) (ps.map (·.1)))) := by
 obtain ⟨ra,rc,rfl⟩ := hrows.slice
 obtain ⟨cva,cvn,cvc,rfl⟩ := hsrc.prog.slice
 obtain ⟨i0,hi,hz0,hz1,hz2⟩ := info_parts Tryz.infoRow
 have htn := hsrc.tab
 have HSrc := hide hsrc
 have HRows := hide hrows
 have HEach := hide heach
 have HFine := hide hfine
 have HPl := hide hpl
 have HQl := hide hql
 obtain ⟨qv,hqv,hqrows⟩ := hsrc.rows
 obtain ⟨qa,qc,rfl⟩ := hqrows.slice
 have HQr := hide hqrows
 have HQv := hide hqv
 generalize ho:Pl.joinRows cols c lf n (qs.map (·.1)) (ps.map (·.1)) = o
 have HO := hide ho
 clear hsrc hrows heach hfine hpl hql hqv hqrows ho
 generalize hO:Obj.cells #[.pointer (some ⟨tn,0,none⟩),.bool lf,.slice cva cvn cvc] 284 = O
 have HI0:Hid (JoinO w (w.alloc O) O o cols c lf n qs ps 0 (.slice none 0 0) []) := ⟨Below.refl _ _,⟨World.ownsRow_nil _ _ _ _,by simp⟩,by simp,by rw [<- HO.out]; simp; cases Pl.joinRows cols c lf n (qs.map (·.1)) (ps.map (·.1)) <;> simp [addR]⟩
 have HOb := hide hO
 subst hO
 go_enter Tryz.func173,Tryz.ntmps173
 go_wp2_with fail
 go_step3
 go_wp2_with fail
 go_step3
 go_wp2_with fail
 generalize hO:Obj.cells #[.pointer (some ⟨tn,0,none⟩),.bool lf,.slice cva cvn cvc] 284 = O at *
 go_loopw [6,7,18] (fun s6 s7 s18 wr=>∃ (i:Nat) (js:List Pl.PRow),i <= ps.length /\ s18 = .int .i64 i /\ s7 = .int .i64 0 /\ Hid (JoinO w wr O o cols c lf n qs ps i s6 js)) (fun _ _ a _=>ps.length - (intOf a).toNat)
 case atStart=>exact ⟨0,[],Nat.zero_le _,rfl,rfl,HI0⟩
 case round =>
   obtain ⟨i,js,hi',rfl,rfl,HI⟩ := hrel
   clear HI0
   obtain ⟨hbI,hbox,hbz⟩ := low1 HI.out.bel
   have hwz:w.heap.size < wr.heap.size := by omega
   subst hO
   have bx := fun k=>blk_cell hbox k
   have hbx0 := bx 0
   have hbx1 := bx 1
   have hbx2 := bx 2
   simp at hbx0 hbx1 hbx2
   clear bx
   obtain ⟨v1a,v1n,v1c,rfl⟩ := own_slice HI.out.row.1
   by_cases hlt:i < ps.length
   · have hpi:ps[i]? = some ps[i] := List.getElem?_eq_getElem hlt
     have HD:Hid (ps.drop i = ps[i] :: ps.drop (i + 1)) := List.drop_eq_getElem_cons hlt
     have hmem := List.getElem_mem hlt
     generalize ps[i] = p at *
     obtain ⟨pr,pv⟩ := p
     obtain ⟨g,cap,he,hg,e0⟩ := (HRows.out.keep (fun k hk=>hbI.block k hk)).at1 hpi
     cases he
     have hgz:g < wr.heap.size := by omega
     simp only at e0
     have HRS := hide (HEach.out _ hmem)
     obtain ⟨pg,pc,hpv,_⟩ := HEach.out _ hmem
     simp only at hpv
     subst hpv
     have hq2:wr.cell? ⟨tn,2,none⟩ = some (.slice qa qs.length qc) := (World.cell?_of_block (hbI.block tn htn)).trans HQv.out
     have htnr:tn < wr.heap.size := by omega
     have HMem := hide hmem
     have HN0:Hid (JoinN w wr (.cells #[.pointer (some ⟨tn,0,none⟩),.bool lf,.slice cva cvn cvc] 284) o cols c lf n qs ps i js.length pr 0 (.slice v1a v1n v1c) js) := by
       refine ⟨HI.out.bel,HI.out.row,by have := HI.out.len; omega,Nat.le_refl _,?_⟩
       rw [HI.out.ev,HD.out,List.map_cons,joinRows_mid]
       simp only [List.take_length,List.drop_length,List.map_nil,List.drop_zero]
       cases Pl.beside cols c pr (qs.map (·.1)) <;> simp [addR]
     have hjl:v1n = js.length := by
       obtain ⟨a',c',hv',_⟩ := own_cap HI.out.row.1
       cases hv'; rfl
     have hjl2 := HI.out.len
     clear hbI hbox hmem
     obtain ⟨wo,rfl⟩:∃ wo:World,wo = wr := ⟨_,rfl⟩
     subst hjl
     go_wp2_with fail
     go_step3
     go_wp2_with fail
     go_step3
     go_wp2_with fail
     go_loopw [6,7,30] (fun s6 s7 s30 wr=>∃ (k:Nat) (ls:List Pl.PRow),k <= qs.length /\ s30 = .int .i64 k /\ s7 = .int .i64 0 /\ Hid (JoinN w wr (.cells #[.pointer (some ⟨tn,0,none⟩),.bool lf,.slice cva cvn cvc] 284) o cols c lf n qs ps i js.length pr k s6 ls)) (fun _ _ a _=>qs.length - (intOf a).toNat)
     case atStart=>exact ⟨0,js,Nat.zero_le _,rfl,rfl,HN0⟩
     case round =>
       obtain ⟨k,ls,hk',rfl,rfl,HN⟩ := hrel
       clear HN0
       obtain ⟨hbN,hboxN,hbzN⟩ := low1 HN.out.bel
       have hwzN:w.heap.size < wr.heap.size := by omega
       have hcx0 := blk_cell hboxN 0
       have hcx1 := blk_cell hboxN 1
       have hcx2 := blk_cell hboxN 2
       simp at hcx0 hcx1 hcx2
       obtain ⟨u1a,u1n,u1c,rfl⟩ := own_slice HN.out.row.1
       obtain rfl:u1n = ls.length := by
         obtain ⟨a',c',hv',_⟩ := own_cap HN.out.row.1
         cases hv'; rfl
       have hll := HN.out.len
       by_cases hkt:k < qs.length
       · have hqk:qs[k]? = some qs[k] := List.getElem?_eq_getElem hkt
         have HDq:Hid (qs.drop k = qs[k] :: qs.drop (k + 1)) := List.drop_eq_getElem_cons hkt
         have hmq := List.getElem_mem hkt
         generalize qs[k] = q at *
         obtain ⟨qr,qv⟩ := q
         obtain ⟨g2,cap2,he2,hg2,f0⟩ := (HQr.out.keep (fun k hk=>hbN.block k hk)).at1 hqk
         cases he2
         have hg2z:g2 < wr.heap.size := by omega
         simp only at f0
         have hqS := HSrc.out.each _ hmq
         obtain ⟨qg,qc',hqv,_⟩ := HSrc.out.each _ hmq
         simp only at hqv
         subst hqv
         have hB1:Below wr.heap.size wr (wr.alloc (.cells #[.slice (some ⟨pg,0,none⟩) pr.length pc,.slice (some ⟨qg,0,none⟩) qr.length qc'] 32)) := (Below.refl _ _).alloc (Nat.le_refl _) _
         have hplen := HPl.out _ HMem.out
         have hqlen := HQl.out _ hmq
         have HCat := hide (concatM pr qr _ _ wr.heap.size 2 _ ((HRS.out.below hbN).below hB1) ((hqS.below hbN).below hB1) (blk_new _ _) (by simp only at hplen hqlen; omega))
         have HB1 := hide hB1
         have hfr := HFine.out _ HMem.out _ hmq
         have HQne := hide hqlen.2
         simp only at hfr
         clear hB1 hqS hbN hboxN hplen hqlen
         go_wp2_with fail
         refine (unhide HCat).mono ?_
         rintro e w2 ⟨hb2,u,rfl,hu⟩
         have hB2:Below wr.heap.size wr w2 := HB1.out.trans (hb2.mono HB1.out.size)
         have hrow2:RowsW w2 w2.heap.size 3 vC (pr ++ qr) u := own_rows (f := vC) (fun _=>rfl) hu (Nat.le_refl _)
         have hbW2:Below w.heap.size w w2 := (low1 HN.out.bel).1.trans (hB2.mono (by omega))
         have HHo := hide (holdsT X (HSrc.out.prog.below hbW2) hrow2 hf hfr)
         obtain ⟨ua,un,uc,rfl⟩ := own_slice hu
         have hbox2 := below_blk hB2 (by omega) (low1 HN.out.bel).2.1
         have gx2 := blk_cell hbox2 2
         simp at gx2
         have hw2z := lt_of_blk hbox2
         have HU := hide hu
         have HB2 := hide hB2
         clear hb2 hrow2 hbW2 hbox2 hu hB2 HCat
         cases hev:Pl.ev cols (pr ++ qr) c with
         | error er =>
           have her:((er:Int) != 0) = true := by have := ev_err hev; simp; omega
           rw [hev] at HHo
           have HE:Hid (o = .error er) := by unfold Hid; rw [HN.out.ev,HDq.out,List.map_cons,beside_err hev]; rfl
           simp only [holdV] at HHo
           clear hev
           go_wp2_with fail
           refine (unhide HHo).mono ?_
           rintro e w3 ⟨rfl,hb3⟩
           have HB3:Hid (Below w.heap.size w w3) := ((low1 HN.out.bel).1.trans (HB2.out.mono (by omega))).trans (hb3.mono (by have := HB2.out.size; omega))
           clear hb3 HHo
           go_wp2_with fail
           rw [Exit.noGoto_exit]
           go_wp2_with fail
           (try rw [Exit.noGoto_ret])
           exact bodyPost_ret (v := .tuple #[.slice none 0 0,.int .i64 (er:Nat)]) (by simp [results,Tryz.results173,go_sem]) rfl ⟨HB3.out,.inl ⟨er,HE.out,rfl⟩⟩
         | ok x =>
           rw [hev] at HHo
           simp only [holdV] at HHo
           by_cases hx:x = Pl.tru true
           · rw [Pl.V.same_yes hx] at HHo
             have HEv:Hid (o = midJ (((ls ++ [(pr ++ qr,(.slice ua un uc:Value))]).take js.length).map (·.1)) lf n pr (Pl.joinRows cols c lf n (qs.map (·.1)) ((ps.drop (i + 1)).map (·.1))) (addR (((ls ++ [(pr ++ qr,(.slice ua un uc:Value))]).drop js.length).map (·.1)) (Pl.beside cols c pr ((qs.drop (k + 1)).map (·.1))))) := by
               unfold Hid
               rw [HN.out.ev,HDq.out,List.map_cons,beside_yes hev hx]
               rw [List.take_append_of_le_length HN.out.at_,List.drop_append_of_le_length HN.out.at_]
               simp
             clear hev hx
             go_wp2_with fail
             refine (unhide HHo).mono ?_
             rintro e w3 ⟨rfl,hb3⟩
             have HB3 := hide (HB2.out.trans (hb3.mono HB2.out.size))
             have HU3 := hide (own_below hb3 HU.out)
             have hz3:wr.heap.size <= w3.heap.size := HB3.out.size
             have hown3 := own_below HB3.out HN.out.row.1
             clear hb3 HHo
             go_wp2_with (at_builtin; refine wpList_append_own _ rfl (.tmp 52) (.tmp 54) 29 rfl (w.heap.size + 1) 32 i0 _ 1 24 Tryz.underlying29 hi hz0 hz1 hz2 rfl (by decide) _ _ _ rfl (hown3.alloc _) ⟨w3.heap.size,0,none⟩ 1 1 [.slice ua un uc] rfl rfl ?c1 ?c2 ?c3 ?c4 ?c5 ?_)
             case c1=>exact news_at w3 [.slice ua un uc] 32
             case c2=>intro x hx; simp at hx; subst hx; rfl
             case c3=>unfold maxLen; omega
             case c4=>omega
             case c5=>simp; omega
             intro v' w4 hown4 hg4 hnil
             have HN4:Hid (JoinN w w4 (.cells #[.pointer (some ⟨tn,0,none⟩),.bool lf,.slice cva cvn cvc] 284) o cols c lf n qs ps i js.length pr (k + 1) v' (ls ++ [(pr ++ qr,.slice ua un uc)])) := by
               have hbA:Below wr.heap.size wr (w3.alloc (.cells #[.slice ua un uc] 32)) := HB3.out.alloc hz3 _
               refine ⟨below_grown (HN.out.bel.trans (hbA.mono hbzN)) hg4 (fun k hk=>(HN.out.row.1.lt k hk).1) (by simp; omega),(HN.out.row.below hbA).push (own_base ((HU3.out).alloc _) (by simp; omega)) (by intro h; exact HQne.out (List.append_eq_nil_iff.1 h).2) hown4 hg4,by simp; omega,by have := HN.out.at_; simp; omega,HEv.out⟩
             clear hown3 hown4 hg4 hnil
             go_wp2_with fail
             go_roundw
             case rel=>exact ⟨k + 1,_,by omega,by go_num,rfl,HN4⟩
             case measure=>simp [intOf]; omega
           · rw [Pl.V.same_no hx] at HHo
             have HEv:Hid (o = midJ ((ls.take js.length).map (·.1)) lf n pr (Pl.joinRows cols c lf n (qs.map (·.1)) ((ps.drop (i + 1)).map (·.1))) (addR ((ls.drop js.length).map (·.1)) (Pl.beside cols c pr ((qs.drop (k + 1)).map (·.1))))) := by
               unfold Hid
               rw [HN.out.ev,HDq.out,List.map_cons,beside_no hev hx]
             clear hev hx
             go_wp2_with fail
             refine (unhide HHo).mono ?_
             rintro e w3 ⟨rfl,hb3⟩
             have hB3 := HB2.out.trans (hb3.mono HB2.out.size)
             have HN4:Hid (JoinN w w3 (.cells #[.pointer (some ⟨tn,0,none⟩),.bool lf,.slice cva cvn cvc] 284) o cols c lf n qs ps i js.length pr (k + 1) (.slice u1a ls.length u1c) ls) :=
               ⟨HN.out.bel.trans (hB3.mono hbzN),HN.out.row.below hB3,by omega,HN.out.at_,HEv.out⟩
             clear hb3 hB3 HHo
             go_wp2_with fail
             go_roundw
             case rel=>exact ⟨k + 1,_,by omega,by go_num,rfl,HN4⟩
             case measure=>simp [intOf]; omega
       · obtain rfl:k = qs.length := by omega
         by_cases hany:(js.length:Int) < (ls.length:Int)
         · have HNext := hide (HN.out.done hqn (.inl (by omega)))
           clear hbN hboxN
           go_wp2_with fail
           rw [Exit.noGoto_exit]
           go_wp2_with fail
           exact ⟨⟨i + 1,_,by omega,by go_num,rfl,HNext⟩,by simp [intOf]; omega⟩
         · obtain hjs:js.length = ls.length := by have := HN.out.at_; omega
           cases hlf:lf with
           | false =>
             subst hlf
             have HNext := hide (HN.out.done hqn (.inr rfl))
             clear hbN hboxN
             go_wp2_with fail
             exact ⟨⟨i + 1,_,by omega,by go_num,rfl,HNext⟩,by simp [intOf]; omega⟩
           | true =>
             subst hlf
             obtain ⟨ca,cc,hcol⟩ := HSrc.out.cols
             have hcol':wr.cell? ⟨tn,1,none⟩ = some (.slice ca n cc) := (World.cell?_of_block (hbN.block tn htn)).trans hcol
             have HNul := hide (nullsM tn n true ca cc cva cvn cvc wr (by omega) hcol' (by omega))
             have HRS' := hide (HRS.out.below hbN)
             have hplen := HPl.out _ HMem.out
             simp only at hplen
             have HPlen := hide hplen
             clear hbN hboxN hcol hcol' hplen
             go_wp2_with fail
             refine (unhide HNul).mono ?_
             rintro e w2 ⟨hb2,u,rfl,hu⟩
             have HB2 := hide hb2
             have HU := hide hu
             have hB3:Below w2.heap.size w2 (w2.alloc (.cells #[.slice (some ⟨pg,0,none⟩) pr.length pc,u] 32)) := (Below.refl _ _).alloc (Nat.le_refl _) _
             have hur:RowS w2 w2.heap.size (List.replicate n Pl.nul) u := RowS.own (by simpa using hu) (by intro e; have := congrArg List.length e; simp at this; omega)
             have HCat := hide (concatM pr (List.replicate n Pl.nul) _ _ w2.heap.size 2 _ ((HRS'.out.below hb2).below hB3) (hur.below hB3) (blk_new _ _) (by have := HPlen.out; simp; omega))
             have HB3 := hide hB3
             obtain ⟨ua,un,uc,rfl⟩ := own_slice hu
             clear hb2 hu hB3 hur HNul
             go_wp2_with fail
             refine (unhide HCat).mono ?_
             rintro e w3 ⟨hb3,u3,rfl,hu3⟩
             obtain ⟨xa,xn,xc,rfl⟩ := own_slice hu3
             have hBz := HB2.out.size
             have hBz3 := HB3.out.size
             have hbw:Below wr.heap.size wr w3 := HB2.out.trans ((HB3.out.mono hBz).trans (hb3.mono (by omega)))
             have hown3 := own_below hbw HN.out.row.1
             have hz3:wr.heap.size <= w3.heap.size := hbw.size
             have HU3 := hide hu3
             have HBw := hide hbw
             clear hb3 hu3 hbw HCat hBz3
             go_wp2_with (at_builtin; refine wpList_append_own _ rfl (.tmp 66) (.tmp 72) 29 rfl (w.heap.size + 1) 32 i0 _ 1 24 Tryz.underlying29 hi hz0 hz1 hz2 rfl (by decide) _ _ _ rfl (hown3.alloc _) ⟨w3.heap.size,0,none⟩ 1 1 [.slice xa xn xc] rfl rfl ?c1 ?c2 ?c3 ?c4 ?c5 ?_)
             case c1=>exact news_at w3 [.slice xa xn xc] 32
             case c2=>intro x hx; simp at hx; subst hx; rfl
             case c3=>unfold maxLen; omega
             case c4=>omega
             case c5=>simp; omega
             intro v' w4 hown4 hg4 hnil
             have HNext:Hid (JoinO w w4 (.cells #[.pointer (some ⟨tn,0,none⟩),.bool true,.slice cva cvn cvc] 284) o cols c true n qs ps (i + 1) v' (ls ++ [(pr ++ List.replicate n Pl.nul,.slice xa xn xc)])) := by
               have hbA:Below wr.heap.size wr (w3.alloc (.cells #[.slice xa xn xc] 32)) := HBw.out.alloc hz3 _
               have hN := HN.out
               rw [hjs] at hN
               refine hN.left hqn (below_grown (HN.out.bel.trans (hbA.mono hbzN)) hg4 (fun k hk=>(HN.out.row.1.lt k hk).1) (by simp; omega)) ((HN.out.row.below hbA).push (own_base ((HU3.out).alloc _) (by simp; omega)) (by intro h; have := congrArg List.length h; simp at this; omega) hown4 hg4)
             clear hown3 hown4 hg4 hnil
             go_wp2_with fail
             rw [Exit.noGoto_normal]
             go_wp2_with fail
             exact ⟨⟨i + 1,_,by omega,by go_num,rfl,HNext⟩,by simp [intOf]; omega⟩
   · obtain rfl:i = ps.length := by omega
     have HE:Hid (o = .ok (js.map (·.1))) := by unfold Hid; rw [HI.out.ev,List.drop_length]; simp [Pl.joinRows,addR]
     clear hbI hbox
     go_wp2_with fail
     (try rw [Exit.noGoto_ret])
     exact bodyPost_ret (v := .tuple #[.slice v1a v1n v1c,.int .i64 0]) (by simp [results,Tryz.results173,go_sem]) rfl ⟨(low1 HI.out.bel).1,.inr ⟨js,_,HE.out,rfl,own_base HI.out.row.1 (Nat.le_succ _),fun j hj=>⟨own_base (HI.out.row.2 j hj).1 (Nat.le_succ _),(HI.out.row.2 j hj).2⟩⟩⟩
end Go.Proofs.YtojdpjpldokjmaaGreatDoor
namespace Go.Proofs.YtojdpjpldokjmaaGreatDoor.Pl
structure Src where
 tn:Nat
 lf:Bool
 cols:List Col
 c:T
 qs:List PRow
 n:Nat
 cv:Value
def joinsP:List Src -> List (List V) -> Out (List (List V))
 | [],rows=>.ok rows
 | s :: ss,rows=>match joinRows s.cols s.c s.lf s.n (s.qs.map (·.1)) rows with
   | .error e=>.error e
   | .ok z=>joinsP ss z
def SrcsOk:List Src -> List (List V) -> Prop
 | [],_=>True
 | s :: ss,rows=>(Fine s.cols s.c /\ (∀ p ∈ rows,∀ q ∈ s.qs,FineRow s.cols (p ++ q.1)) /\ (∀ p ∈ rows,p.length <= 100) /\ (∀ q ∈ s.qs,q.1.length <= 100 /\ q.1 ≠ []) /\ 1 <= s.n /\ s.n <= 100 /\ rows.length <= 20000 /\ s.qs.length <= 25) /\
   ∀ z,joinRows s.cols s.c s.lf s.n (s.qs.map (·.1)) rows = .ok z -> SrcsOk ss z
end Go.Proofs.YtojdpjpldokjmaaGreatDoor.Pl
namespace Go.Proofs.YtojdpjpldokjmaaGreatDoor
open Go.RowKit Go.Deep
set_option linter.unusedSimpArgs false
set_option linter.unusedVariables false
def srcC (s:Pl.Src):List Value := [.pointer (some ⟨s.tn,0,none⟩),.bool s.lf,s.cv]
theorem RowsW.src {w:World} {hi:Nat} {ss:List Pl.Src} {v:Value} (h:RowsW w hi 3 srcC ss v) {i:Nat} {s:Pl.Src} (hs:ss[i]? = some s):∃ g cap,v = .slice (some ⟨g,0,none⟩) ss.length cap /\ g < hi /\
   w.cell? ⟨g,i * 3,none⟩ = some (.pointer (some ⟨s.tn,0,none⟩)) /\ w.cell? ⟨g,i * 3 + 1,none⟩ = some (.bool s.lf) /\ w.cell? ⟨g,i * 3 + 2,none⟩ = some s.cv := by
 obtain ⟨a,cap,rfl,h2⟩ := h
 obtain ⟨g,rfl,hg,h3⟩ := h2 (by rintro rfl; simp at hs)
 exact ⟨g,cap,rfl,hg,h3 i s hs 0 _ rfl,h3 i s hs 1 _ rfl,h3 i s hs 2 _ rfl⟩
theorem SrcW.more {w:World} {hi hi':Nat} {cols:List Pl.Col} {tn:Nat} {lf:Bool} {c:Pl.T} {qs:List Pl.PRow} {n:Nat} {cv:Value} (h:SrcW w hi cols tn lf c qs n cv) (hk:hi <= hi'):SrcW w hi' cols tn lf c qs n cv := by
 obtain ⟨h1,h2,⟨rv,h3,h4⟩,h5,h6⟩ := h
 exact ⟨RowsW.more h1 hk,by omega,⟨rv,h3,h4.more hk⟩,fun q hq=>(h5 q hq).more hk,h6⟩
theorem SrcW.below {w w':World} {cols:List Pl.Col} {tn:Nat} {lf:Bool} {c:Pl.T} {qs:List Pl.PRow} {n:Nat} {cv:Value} (h:SrcW w w.heap.size cols tn lf c qs n cv) (hb:Below w.heap.size w w'):SrcW w' w'.heap.size cols tn lf c qs n cv := (h.keep (fun k hk=>hb.block k hk)).more hb.size
def RowsS (w:World) (ps:List Pl.PRow) (v:Value):Prop := RowsW w w.heap.size 1 (fun p=>[p.2]) ps v /\ ∀ p ∈ ps,RowS w w.heap.size p.1 p.2
theorem RowsS.below {w w':World} {ps:List Pl.PRow} {v:Value} (h:RowsS w ps v) (hb:Below w.heap.size w w'):RowsS w' ps v := ⟨h.1.below hb,fun p hp=>(h.2 p hp).below hb⟩
theorem Joins.rowsS {w:World} {base:Nat} {v:Value} {js:List Pl.PRow} (h:Joins w base v js):RowsS w js v :=
 ⟨own_rows (f := fun p:Pl.PRow=>[p.2]) (fun _=>rfl) (by rw [sndC_flat]; exact h.1) (Nat.le_refl _),fun j hj=>RowS.own (h.2 j hj).1 (h.2 j hj).2⟩
theorem beside_no0 {cols:List Pl.Col} {c:Pl.T} {r:List Pl.V}:∀ {qs:List (List Pl.V)} {e:Nat},Pl.beside cols c r qs = .error e -> e = 4 \/ e = 5
 | [],e,h=>by simp [Pl.beside] at h
 | q :: qs,e,h=>by
   cases hv:Pl.ev cols (r ++ q) c with
   | error e' => rw [beside_err hv] at h; cases h; exact ev_err hv
   | ok v =>
     rw [Pl.beside,hv] at h
     simp only at h
     cases hb:Pl.beside cols c r qs with
     | error e' => rw [hb] at h; cases h; exact beside_no0 hb
     | ok z=>rw [hb] at h; simp only at h; split at h <;> cases h
theorem joinRows_no0 {cols:List Pl.Col} {c:Pl.T} {lf:Bool} {n:Nat} {qs:List (List Pl.V)}:∀ {rs:List (List Pl.V)} {e:Nat},Pl.joinRows cols c lf n qs rs = .error e -> e = 4 \/ e = 5
 | [],e,h=>by simp [Pl.joinRows] at h
 | r :: rs,e,h=>by
   rw [Pl.joinRows] at h
   cases hb:Pl.beside cols c r qs with
   | error e' => rw [hb] at h; cases h; exact beside_no0 hb
   | ok z =>
     rw [hb] at h
     simp only at h
     cases hj:Pl.joinRows cols c lf n qs rs with
     | error e' => rw [hj] at h; cases h; exact joinRows_no0 hj
     | ok y=>rw [hj] at h; cases h
structure JoinA (w wr:World) (o:Pl.Out (List (List Pl.V))) (ss:List Pl.Src) (i:Nat) (v:Value) (ps:List Pl.PRow):Prop where
 bel:Below w.heap.size w wr
 rows:RowsS wr ps v
 own:i = 0 \/ Joins wr w.heap.size v ps
 ok:Pl.SrcsOk (ss.drop i) (ps.map (·.1))
 ev:o = Pl.joinsP (ss.drop i) (ps.map (·.1))
theorem joinAllM (X:MachLib) (ss:List Pl.Src) (sv:Value) (w:World) (hss:RowsW w w.heap.size 3 srcC ss sv) (hne:ss ≠ []) (hlen:ss.length <= 1000) (heach:∀ s ∈ ss,SrcW w w.heap.size s.cols s.tn s.lf s.c s.qs s.n s.cv) (hok:Pl.SrcsOk ss [[]]) :
   Calls Tryz.prog 111 #[sv] w (PostJoin w (Pl.joinsP ss [[]])) := by
 obtain ⟨sa,sc,rfl⟩ := hss.slice
 have HSS := hide hss
 have HEach := hide heach
 have HOk := hide hok
 have HNe := hide hne
 generalize ho:Pl.joinsP ss [[]] = o
 have HO := hide ho
 clear hss heach hok hne ho
 go_enter Tryz.func111,Tryz.ntmps111
 go_wp2_with fail
 have HI0:Hid (JoinA w ((w.alloc (.cells #[] 34)).alloc (.cells #[.slice (some ⟨w.heap.size,0,none⟩) 0 0] 32)) o ss 0 (.slice (some ⟨w.heap.size + 1,0,none⟩) 1 1) [([],.slice (some ⟨w.heap.size,0,none⟩) 0 0)]) := by
   refine ⟨((Below.refl _ _).alloc (Nat.le_refl _) _).alloc (by simp) _,⟨⟨some ⟨w.heap.size + 1,0,none⟩,1,rfl,fun _=>⟨w.heap.size + 1,rfl,by simp,fun i c hc j u hu=>?_⟩⟩,fun p hp=>?_⟩,.inl rfl,by simpa using HOk.out,by simpa using HO.out.symm⟩
   · have hi0:i = 0 := by
       have := (List.getElem?_eq_some_iff.1 hc).1
       simpa using this
     subst hi0
     simp at hc
     subst hc
     have hj0:j = 0 := by
       have := (List.getElem?_eq_some_iff.1 hu).1
       simpa using this
     subst hj0
     simp at hu
     subst hu
     simp
   · simp at hp
     subst hp
     exact ⟨w.heap.size,0,rfl,by simp; omega,fun i u hu=>by simp [rowC] at hu⟩
 go_loopw [4,13] (fun s4 s13 wr=>∃ (i:Nat) (ps:List Pl.PRow),i <= ss.length /\ s13 = .int .i64 i /\ Hid (JoinA w wr o ss i s4 ps)) (fun _ a _=>ss.length - (intOf a).toNat)
 case atStart=>exact ⟨0,_,Nat.zero_le _,rfl,HI0⟩
 case round =>
   obtain ⟨i,ps,hi',rfl,HI⟩ := hrel
   clear HI0
   have hbI := HI.out.bel
   have hbz := hbI.size
   obtain ⟨v1a,v1c,rfl⟩ := HI.out.rows.1.slice
   by_cases hlt:i < ss.length
   · have hsi:ss[i]? = some ss[i] := List.getElem?_eq_getElem hlt
     have HD:Hid (ss.drop i = ss[i] :: ss.drop (i + 1)) := List.drop_eq_getElem_cons hlt
     have hmem := List.getElem_mem hlt
     generalize ss[i] = s at *
     have hok := HI.out.ok
     rw [HD.out] at hok
     obtain ⟨⟨k1,k2,k3,k4,k5,k6,k7,k8⟩,hok2⟩ := hok
     obtain ⟨g,cap,he,hg,e0,e1,e2⟩ := (HSS.out.keep (fun k hk=>hbI.block k hk)).src hsi
     cases he
     have hgz:g < wr.heap.size := by omega
     have hcvs := (HEach.out s hmem).prog.slice
     obtain ⟨cva,cvn,cvc,hcv⟩ := hcvs
     have HCall:Hid (∀ W,Below wr.heap.size wr W -> Calls Tryz.prog 173 #[.agg #[.pointer (some ⟨s.tn,0,none⟩),.bool s.lf,s.cv],.slice v1a ps.length v1c] W (PostJoin W (Pl.joinRows s.cols s.c s.lf s.n (s.qs.map (·.1)) (ps.map (·.1))))) := by
       intro W hW
       have hr := HI.out.rows.below hW
       exact joinM X s.cols s.c s.lf s.n s.qs ps s.tn s.cv _ W ((HEach.out s hmem).below (hbI.trans (hW.mono hbz))) hr.1 hr.2 k1 (fun p hp q hq=>k2 p.1 (List.mem_map_of_mem hp) q hq) (fun p hp=>k3 p.1 (List.mem_map_of_mem hp)) k4 k5 k6 (by simpa using k7) k8
     have HEv:Hid (o = match Pl.joinRows s.cols s.c s.lf s.n (s.qs.map (·.1)) (ps.map (·.1)) with | .error e=>.error e | .ok z=>Pl.joinsP (ss.drop (i + 1)) z) := by
       unfold Hid; rw [HI.out.ev,HD.out]; rfl
     have HOk2 := hide hok2
     clear hok2 k1 k2 k3 k4 k5 k6 k7 k8 hbI hmem
     have HNo0:Hid (∀ e,Pl.joinRows s.cols s.c s.lf s.n (s.qs.map (·.1)) (ps.map (·.1)) = .error e -> e = 4 \/ e = 5) := fun e h=>joinRows_no0 h
     generalize hO':Pl.joinRows s.cols s.c s.lf s.n (s.qs.map (·.1)) (ps.map (·.1)) = o' at *
     clear hO'
     rw [hcv] at e2 HCall
     generalize s.tn = tn at *
     generalize s.lf = lf at *
     clear hcv
     generalize hW:wr.alloc (.cells #[.pointer (some ⟨tn,0,none⟩),.bool lf,.slice cva cvn cvc] 284) = W
     have HBW:Hid (Below wr.heap.size wr W) := by unfold Hid; rw [<- hW]; exact (Below.refl _ _).alloc (Nat.le_refl _) _
     subst hW
     go_wp2_with fail
     refine (unhide HCall _ HBW.out).mono ?_
     rintro e w2 ⟨hb2,hpost⟩
     have hB2:Below w.heap.size w w2 := HI.out.bel.trans ((HBW.out.trans (hb2.mono HBW.out.size)).mono hbz)
     have HB2 := hide hB2
     clear hB2 HCall
     rcases hpost with ⟨er,rfl,rfl⟩ | ⟨js,v,rfl,rfl,hjs⟩
     · have her:((er:Int) != 0) = true := by have := HNo0.out er rfl; simp; omega
       have HE:Hid (o = .error er) := HEv.out
       clear hb2
       go_wp2_with fail
       exact bodyPost_ret (v := .tuple #[.slice none 0 0,.int .i64 (er:Nat)]) (by simp [results,Tryz.results111,go_sem]) rfl ⟨HB2.out,.inl ⟨er,HE.out,rfl⟩⟩
     · have HNext:Hid (JoinA w w2 o ss (i + 1) v js) := ⟨HB2.out,hjs.rowsS,.inr ⟨own_base hjs.1 (by have := HBW.out.size; omega),fun j hj=>⟨own_base (hjs.2 j hj).1 (by have := HBW.out.size; omega),(hjs.2 j hj).2⟩⟩,HOk2.out _ rfl,HEv.out⟩
       clear hb2 hjs
       go_wp2_with fail
       go_roundw
       case rel=>exact ⟨i + 1,_,by omega,by go_num,HNext⟩
       case measure=>simp [intOf]; omega
   · obtain rfl:i = ss.length := by omega
     have HE:Hid (o = .ok (ps.map (·.1))) := by unfold Hid; rw [HI.out.ev,List.drop_length]; rfl
     have HJ:Hid (Joins wr w.heap.size (.slice v1a ps.length v1c) ps) := (HI.out.own.resolve_left (fun h=>HNe.out (List.length_eq_zero_iff.1 h)))
     have HB := hide hbI
     clear hbI
     go_wp2_with fail
     exact bodyPost_ret (v := .tuple #[.slice v1a ps.length v1c,.int .i64 0]) (by simp [results,Tryz.results111,go_sem]) rfl ⟨HB.out,.inr ⟨ps,_,HE.out,rfl,HJ.out⟩⟩
def siC (p:Pl.It × Value):List Value := shX p.1 p.2
theorem RowsW.si {w:World} {hi:Nat} {ss:List (Pl.It × Value)} {v:Value} (h:RowsW w hi 4 siC ss v) {i:Nat} {s:Pl.It × Value} (hs:ss[i]? = some s):∃ g cap,v = .slice (some ⟨g,0,none⟩) ss.length cap /\ g < hi /\
   w.cell? ⟨g,i * 4,none⟩ = some (.string ⟨s.1.name.toArray⟩) /\ w.cell? ⟨g,i * 4 + 1,none⟩ = some (.string ⟨s.1.other.toArray⟩) /\ w.cell? ⟨g,i * 4 + 2,none⟩ = some (.bool s.1.mark) /\ w.cell? ⟨g,i * 4 + 3,none⟩ = some s.2 := by
 obtain ⟨a,cap,rfl,h2⟩ := h
 obtain ⟨g,rfl,hg,h3⟩ := h2 (by rintro rfl; simp at hs)
 exact ⟨g,cap,rfl,hg,h3 i s hs 0 _ rfl,h3 i s hs 1 _ rfl,h3 i s hs 2 _ rfl,h3 i s hs 3 _ rfl⟩
def soFn (ob:Nat):Value := .func (.func 295) #[] #[.pointer (some ⟨ob,0,none⟩)]
theorem soFnM (nm b nm':List UInt8) (m:Bool) (a:Option Addr) (ob:Nat) (w:World) (hb:w.heap[ob]? = some (.cells #[.string ⟨nm'.toArray⟩] 9)) :
   Calls Tryz.prog 295 #[.agg #[.string ⟨nm.toArray⟩,.string ⟨b.toArray⟩,.bool m,.pointer a],.pointer (some ⟨ob,0,none⟩)] w fun e w' => e = .returned (.bool (decide (b = nm'))) /\ Below w.heap.size w w' := by
 have hbz := lt_of_blk hb
 have b0 := blk_cell hb 0
 simp at b0
 have HB:Hid (Below w.heap.size w (w.alloc (.cells #[.string ⟨nm.toArray⟩,.string ⟨b.toArray⟩,.bool m,.pointer a] 324))) := (Below.refl _ _).alloc (Nat.le_refl _) _
 clear hb
 by_cases hq:b = nm'
 · obtain ⟨qa,qb⟩ := eq_facts hq
   rw [decide_eq_true hq]
   clear hq
   go_enter Tryz.func295,Tryz.ntmps295
   go_wp2_with fail
   go_ret
   exact ⟨rfl,HB.out⟩
 · obtain ⟨qa,qb⟩ := ne_facts hq
   rw [decide_eq_false hq]
   clear hq
   go_enter Tryz.func295,Tryz.ntmps295
   go_wp2_with fail
   go_ret
   exact ⟨rfl,HB.out⟩
def others (ss:List (Pl.It × Value)):List (List UInt8) := ss.map (fun p=>p.1.other)
def PostSo (w:World) (b:Bool) (e:Ending) (w':World):Prop := ∃ k:Int,e = .returned (.int .i64 k) /\ decide (0 <= k) = b /\ k < 9000000000 /\ Below w.heap.size w w'
theorem soIndexM (ss:List (Pl.It × Value)) (nm:List UInt8) (sv:Value) (ob:Nat) (w:World) (hss:RowsW w w.heap.size 4 siC ss sv) (hp:∀ s ∈ ss,∃ a,s.2 = .pointer a) (hl:ss.length <= 1048577) (hb:w.heap[ob]? = some (.cells #[.string ⟨nm.toArray⟩] 9)) :
   Calls Tryz.prog 320 #[sv,soFn ob] w (PostSo w ((others ss).contains nm)) := by
 obtain ⟨sa,sc,rfl⟩ := hss.slice
 have HSS := hide hss
 have HP := hide hp
 have HBx := hide hb
 generalize ho:(others ss).contains nm = o
 have HO := hide ho
 have hobz := lt_of_blk hb
 clear hss hp hb ho
 unfold soFn
 go_enter Tryz.func320,Tryz.ntmps320
 go_wp2_with fail
 go_loopw [8] (fun s8 wr=>∃ (i:Nat),i <= ss.length /\ s8 = .int .i64 i /\ Hid (Below w.heap.size w wr /\ ∀ (j:Nat) s,j < i -> ss[j]? = some s -> s.1.other ≠ nm)) (fun a _=>ss.length - (intOf a).toNat)
 case atStart=>exact ⟨0,Nat.zero_le _,rfl,Below.refl _ _,fun j s hj=>by omega⟩
 case round =>
   obtain ⟨i,hi',rfl,HI⟩ := hrel
   have hbI := HI.out.1
   have hbz := hbI.size
   by_cases hlt:i < ss.length
   · have hsi:ss[i]? = some ss[i] := List.getElem?_eq_getElem hlt
     have hmem := List.getElem_mem hlt
     generalize ss[i] = s at *
     obtain ⟨g,cap,he,hg,e0,e1,e2,e3⟩ := (HSS.out.keep (fun k hk=>hbI.block k hk)).si hsi
     cases he
     have hgz:g < wr.heap.size := by omega
     obtain ⟨a,ha⟩ := HP.out s hmem
     rw [ha] at e3
     have hbx:wr.heap[ob]? = some (.cells #[.string ⟨nm.toArray⟩] 9) := (hbI.block ob hobz).trans HBx.out
     have HC := hide (soFnM s.1.name s.1.other nm s.1.mark a ob wr hbx)
     have HS := hide hsi
     have HM := hide hmem
     clear hbI hbx ha hmem hsi
     by_cases hq:s.1.other = nm
     · rw [decide_eq_true hq] at HC
       have HE:Hid (o = true) := by
         unfold Hid
         rw [<- HO.out,List.contains_iff_mem]
         exact List.mem_map.2 ⟨s,HM.out,hq⟩
       clear hq
       go_wp2_with fail
       refine (unhide HC).mono ?_
       rintro e w1 ⟨rfl,hb1⟩
       have HB := hide (HI.out.1.trans (hb1.mono hbz))
       clear hb1 HC
       go_wp2_with fail
       go_ret
       exact ⟨i,rfl,by rw [HE.out]; simp,by omega,HB.out⟩
     · rw [decide_eq_false hq] at HC
       have HN:Hid (∀ (j:Nat) s,j < i + 1 -> ss[j]? = some s -> s.1.other ≠ nm) := fun j x hj hx=>by
         by_cases e:j = i
         · subst e; rw [HS.out] at hx; cases hx; exact hq
         · exact HI.out.2 j x (by omega) hx
       clear hq
       go_wp2_with fail
       refine (unhide HC).mono ?_
       rintro e w1 ⟨rfl,hb1⟩
       have HB := hide (HI.out.1.trans (hb1.mono hbz))
       clear hb1 HC
       go_wp2_with fail
       go_roundw
       case rel=>exact ⟨i + 1,by omega,by go_num,HB.out,HN.out⟩
       case measure=>simp [intOf]; omega
   · obtain rfl:i = ss.length := by omega
     have HE:Hid (o = false) := by
       unfold Hid
       rw [<- HO.out]
       cases hc:(others ss).contains nm with
       | false=>rfl
       | true =>
         rw [List.contains_iff_mem] at hc
         obtain ⟨s,hs,h⟩ := List.mem_map.1 hc
         obtain ⟨j,hj,rfl⟩ := List.getElem_of_mem hs
         exact absurd h (HI.out.2 j _ hj (List.getElem?_eq_getElem hj))
     clear hbI
     go_wp2_with fail
     go_ret
     exact ⟨-1,rfl,by rw [HE.out]; simp,by omega,HI.out.1⟩
theorem soContainsM (ss:List (Pl.It × Value)) (nm:List UInt8) (sv:Value) (ob:Nat) (w:World) (hss:RowsW w w.heap.size 4 siC ss sv) (hp:∀ s ∈ ss,∃ a,s.2 = .pointer a) (hl:ss.length <= 1048577) (hb:w.heap[ob]? = some (.cells #[.string ⟨nm.toArray⟩] 9)) :
   Calls Tryz.prog 294 #[sv,soFn ob] w fun e w' => e = .returned (.bool ((others ss).contains nm)) /\ Below w.heap.size w w' := by
 have HC := hide (soIndexM ss nm sv ob w hss hp hl hb)
 obtain ⟨sa,sc,rfl⟩ := hss.slice
 generalize ho:(others ss).contains nm = o at *
 clear hss hp hb ho
 unfold soFn at *
 go_enter Tryz.func294,Tryz.ntmps294
 go_wp2_with fail
 refine (unhide HC).mono ?_
 rintro e w1 ⟨k,rfl,rfl,hk,hb1⟩
 go_wp2_with fail
 go_ret
 exact ⟨rfl,hb1⟩
theorem calledSoM (ss:List (Pl.It × Value)) (nm:List UInt8) (sv:Value) (w:World) (hss:RowsW w w.heap.size 4 siC ss sv) (hp:∀ s ∈ ss,∃ a,s.2 = .pointer a) (hl:ss.length <= 1048577) :
   Calls Tryz.prog 256 #[sv,.string ⟨nm.toArray⟩] w fun e w' => e = .returned (.bool ((others ss).contains nm)) /\ Below w.heap.size w w' := by
 have hB:Below w.heap.size w (w.alloc (.cells #[.string ⟨nm.toArray⟩] 9)) := (Below.refl _ _).alloc (Nat.le_refl _) _
 have HC := hide (soContainsM ss nm sv w.heap.size _ (hss.below hB) hp hl (blk_new _ _))
 have HB := hide hB
 obtain ⟨sa,sc,rfl⟩ := hss.slice
 generalize ho:(others ss).contains nm = o at *
 clear hss hp ho hB
 unfold soFn at *
 go_enter Tryz.func256,Tryz.ntmps256
 go_wp2_with fail
 refine (unhide HC).mono ?_
 rintro e w1 ⟨rfl,hb1⟩
 have HB1 := hide (HB.out.trans (hb1.mono HB.out.size))
 clear hb1
 go_wp2_with fail
 go_ret
 exact ⟨rfl,HB1.out⟩
end Go.Proofs.YtojdpjpldokjmaaGreatDoor
namespace Go.Proofs.YtojdpjpldokjmaaGreatDoor.Pl
def addI (acc:List Nat):Out (List Nat) -> Out (List Nat)
 | .error e=>.error e
 | .ok is=>.ok (acc ++ is)
theorem srcsGo_none {db:DB} {called:List (List UInt8)} {it:It} {its:List It} {acc:List Nat} (h:tabAt db it.name = none):addI acc (srcsGo db called (it :: its)) = .error 2 := by
 rw [srcsGo,h]; rfl
theorem srcsGo_twice {db:DB} {called:List (List UInt8)} {it:It} {its:List It} {acc:List Nat} {i:Nat} (h:tabAt db it.name = some i) (hc:called.contains it.other = true):addI acc (srcsGo db called (it :: its)) = .error 2 := by
 rw [srcsGo,h]; simp only [if_pos hc]; rfl
theorem srcsGo_step {db:DB} {called:List (List UInt8)} {it:It} {its:List It} {acc:List Nat} {i:Nat} (h:tabAt db it.name = some i) (hc:called.contains it.other = false):addI acc (srcsGo db called (it :: its)) = addI (acc ++ [i]) (srcsGo db (called ++ [it.other]) its) := by
 rw [srcsGo,h]
 simp only [hc,Bool.false_eq_true,if_false]
 cases srcsGo db (called ++ [it.other]) its <;> simp [addI]
end Go.Proofs.YtojdpjpldokjmaaGreatDoor.Pl
namespace Go.Proofs.YtojdpjpldokjmaaGreatDoor
open Go.RowKit Go.Deep
set_option linter.unusedSimpArgs false
set_option linter.unusedVariables false
def ptrC (lay:List Lay) (is:List Nat):List Value := is.map (fun i=>tabPtr lay (some i))
def PostTabs (w:World) (lay:List Lay) (o:Pl.Out (List Nat)) (e:Ending) (w':World):Prop := Below w.heap.size w w' /\
 ((o = .error 2 /\ e = .returned (.tuple #[.slice none 0 0,.int .i64 2])) \/
  (∃ is v,o = .ok is /\ e = .returned (.tuple #[v,.int .i64 0]) /\ w'.ownsRow w.heap.size 87 1 v is.length (ptrC lay is)))
structure TabsI (w wr:World) (lay:List Lay) (D:Pl.DB) (o:Pl.Out (List Nat)) (ss:List (Pl.It × Value)) (i:Nat) (v:Value) (is:List Nat):Prop where
 bel:Below w.heap.size w wr
 own:wr.ownsRow w.heap.size 87 1 v is.length (ptrC lay is)
 len:is.length = i
 ev:o = Pl.addI is (Pl.srcsGo D (others (ss.take i)) ((ss.drop i).map (·.1)))
theorem others_take {ss:List (Pl.It × Value)} {i:Nat} {s:Pl.It × Value} (h:ss[i]? = some s):others (ss.take (i + 1)) = others (ss.take i) ++ [s.1.other] := by
 rw [List.take_add_one,h]; simp [others]
theorem tablesOfM (ss:List (Pl.It × Value)) (sv:Value) (w:World) (M:Nat -> Prop) (b:Nat) (lay:List Lay) (D:Pl.DB) (h:DbW w M b lay D) (hss:RowsW w w.heap.size 4 siC ss sv) (hp:∀ s ∈ ss,∃ a,s.2 = .pointer a) (hl:ss.length <= 1048577) (hcap:∀ a n c,sv = .slice a n c -> n <= c) :
   Calls Tryz.prog 226 #[.pointer (some ⟨b,0,none⟩),sv] w (PostTabs w lay (Pl.srcsGo D [] (ss.map (·.1)))) := by
 obtain ⟨sa,sc,rfl⟩ := hss.slice
 obtain ⟨i0,hi,hz0,hz1,hz2⟩ := info_parts Tryz.infoTab
 have hcp:ss.length <= sc := hcap _ _ _ rfl
 have HSS := hide hss
 have HP := hide hp
 have HDb := hide h
 clear hcap
 generalize ho:Pl.srcsGo D [] (ss.map (·.1)) = o
 have HI0:Hid (TabsI w w lay D o ss 0 (.slice none 0 0) []) := ⟨Below.refl _ _,World.ownsRow_nil _ _ _ _,rfl,by rw [<- ho]; simp [others]; cases Pl.srcsGo D [] (ss.map (·.1)) <;> simp [Pl.addI]⟩
 clear hss hp h ho
 go_enter Tryz.func226,Tryz.ntmps226
 go_wp2_with fail
 go_loopw [6,12] (fun s6 s12 wr=>∃ (i:Nat) (is:List Nat),i <= ss.length /\ s12 = .int .i64 i /\ Hid (TabsI w wr lay D o ss i s6 is)) (fun _ a _=>ss.length - (intOf a).toNat)
 case atStart=>exact ⟨0,[],Nat.zero_le _,rfl,HI0⟩
 case round =>
   obtain ⟨i,is,hi',rfl,HI⟩ := hrel
   clear HI0
   have hbI := HI.out.bel
   have hbz := hbI.size
   obtain ⟨v1a,v1c,rfl⟩ := own_slice1 HI.out.own
   by_cases hlt:i < ss.length
   · have hsi:ss[i]? = some ss[i] := List.getElem?_eq_getElem hlt
     have HD:Hid (ss.drop i = ss[i] :: ss.drop (i + 1)) := List.drop_eq_getElem_cons hlt
     have hmem := List.getElem_mem hlt
     generalize ss[i] = s at *
     have HOt := hide (others_take hsi)
     obtain ⟨it,tv⟩ := s
     obtain ⟨g,cap,he,hg,e0,e1,e2,e3⟩ := (HSS.out.keep (fun k hk=>hbI.block k hk)).si hsi
     cases he
     have hgz:g < wr.heap.size := by omega
     obtain ⟨a,ha⟩ := HP.out _ hmem
     simp only at ha e0 e1 e2 e3
     subst ha
     have HEv:Hid (o = Pl.addI is (Pl.srcsGo D (others (ss.take i)) (it :: (ss.drop (i + 1)).map (·.1)))) := by unfold Hid; rw [HI.out.ev,HD.out]; rfl
     have hBA:Below wr.heap.size wr (wr.alloc (.cells #[.string ⟨it.name.toArray⟩,.string ⟨it.other.toArray⟩,.bool it.mark,.pointer a] 324)) := (Below.refl _ _).alloc (Nat.le_refl _) _
     have HBA := hide hBA
     have HBA2 := hide (blk_new wr (.cells #[.string ⟨it.name.toArray⟩,.string ⟨it.other.toArray⟩,.bool it.mark,.pointer a] 324))
     have HFind := hide (findM it.name _ M b lay D (HDb.out.below (hbI.trans (hBA.mono hbz))))
     clear hbI hmem hsi hBA
     go_wp2_with fail
     refine (unhide HFind).mono ?_
     rintro e W ⟨rfl,hW⟩
     have HBW:Hid (Below wr.heap.size wr W) := by unfold Hid; rw [hW]; exact HBA.out
     have hbx:W.heap[wr.heap.size]? = some (.cells #[.string ⟨it.name.toArray⟩,.string ⟨it.other.toArray⟩,.bool it.mark,.pointer a] 324) := by rw [hW]; exact HBA2.out
     have hwW:wr.heap.size < W.heap.size := lt_of_blk hbx
     have b1 := blk_cell hbx 1
     simp at b1
     clear hW HFind HBA HBA2 hbx
     cases htab:Pl.tabAt D it.name with
     | none =>
       have HE:Hid (o = .error 2) := by unfold Hid; rw [HEv.out,Pl.srcsGo_none htab]
       clear htab
       unfold tabPtr
       go_wp2_with fail
       have iB2:Inhabited (BelOf W) := BelOf.first W
       refine wp_region_bel (by kernel_rfl) (by kernel_rfl) ?_
       repeat (go_big_quiet_step (fail))
       refine wpQuiet_nil ?_
       intro _ hw'
       obtain ⟨pb,hw''⟩ := hw'
       subst hw''
       have HPb:Hid (Below w.heap.size w pb.val) := HI.out.bel.trans ((HBW.out.trans (pb.bel.mono (by omega))).mono hbz)
       generalize pb.val = W2 at *
       clear pb
       go_wp2_with fail
       exact bodyPost_ret (v := .tuple #[.slice none 0 0,.int .i64 2]) (by simp [results,Tryz.results226,go_sem]) rfl ⟨HPb.out,.inl ⟨HE.out,rfl⟩⟩
     | some j =>
       have hB0:Below w.heap.size w W := HI.out.bel.trans (HBW.out.mono hbz)
       have hsl:RowsW W W.heap.size 4 siC (ss.take i) (.slice (some ⟨g,0,none⟩) i sc) := by
         obtain ⟨a',cap',h1,h2⟩ := (HSS.out.keep (fun k hk=>hB0.block k hk)).more hB0.size
         cases h1
         refine ⟨_,sc,by rw [List.length_take,Nat.min_eq_left hi'],fun hn=>?_⟩
         obtain ⟨g',h3,h4,h5⟩ := h2 (by rintro rfl; simp at hlt)
         exact ⟨g',h3,h4,fun k c hc=>h5 k c (by
           rw [List.getElem?_take] at hc
           split at hc
           · exact hc
           · cases hc)⟩
       have iB:Inhabited (BelOf W) := BelOf.first W
       have HC:Hid (∀ p:BelOf W,Calls Tryz.prog 256 #[.slice (some ⟨g,0,none⟩) i sc,.string ⟨it.other.toArray⟩] p.val fun e w' => e = .returned (.bool ((others (ss.take i)).contains it.other)) /\ ∃ p':BelOf W,w' = p'.val) := fun p =>
         (calledSoM (ss.take i) it.other _ p.val (hsl.below p.bel) (fun s hs=>HP.out s (List.mem_of_mem_take hs)) (by rw [List.length_take]; omega)).mono (fun e w' ⟨he,hb⟩=>⟨he,⟨w',p.bel.trans (hb.mono p.bel.size)⟩,rfl⟩)
       have pb1 := fun p=>BelOf.cell hwW b1 p
       have HT := hide htab
       clear hB0 hsl htab
       have hq1:(0:Int) <= (i:Int) := by omega
       have hq2:(i:Int) <= (sc:Int) := by omega
       have hq3:i <= sc := by omega
       rw [show tabPtr lay (some j) = .pointer (some ⟨(lay.getD j ⟨0,.slice none 0 0,[]⟩).n,0,none⟩) from rfl]
       generalize hL:(lay.getD j ⟨0,.slice none 0 0,[]⟩).n = ln
       have HL := hide hL
       clear hL
       cases hct:(others (ss.take i)).contains it.other with
       | true =>
         have HE:Hid (o = .error 2) := by unfold Hid; rw [HEv.out,Pl.srcsGo_twice HT.out hct]
         rw [hct] at HC
         clear hct
         go_wp2_with fail
         refine wp_region_bel (by kernel_rfl) (by kernel_rfl) ?_
         repeat (go_big_quiet_step (exact (unhide HC) _))
         refine wpQuiet_nil ?_
         intro _ hw'
         obtain ⟨pb,hw''⟩ := hw'
         subst hw''
         have HPb:Hid (Below w.heap.size w pb.val) := HI.out.bel.trans ((HBW.out.trans (pb.bel.mono (by omega))).mono hbz)
         clear pb1 HC b1
         generalize pb.val = W2 at *
         clear pb
         go_wp2_with fail
         exact bodyPost_ret (v := .tuple #[.slice none 0 0,.int .i64 2]) (by simp [results,Tryz.results226,go_sem]) rfl ⟨HPb.out,.inl ⟨HE.out,rfl⟩⟩
       | false =>
         have HE:Hid (o = Pl.addI (is ++ [j]) (Pl.srcsGo D (others (ss.take (i + 1))) ((ss.drop (i + 1)).map (·.1)))) := by unfold Hid; rw [HEv.out,Pl.srcsGo_step HT.out hct,HOt.out]
         rw [hct] at HC
         clear hct
         go_wp2_with fail
         refine wp_region_bel (by kernel_rfl) (by kernel_rfl) ?_
         repeat (go_big_quiet_step (exact (unhide HC) _))
         refine wpQuiet_nil ?_
         intro _ hw'
         obtain ⟨pb,hw''⟩ := hw'
         subst hw''
         have HPb:Hid (Below wr.heap.size wr pb.val) := HBW.out.trans (pb.bel.mono (by omega))
         clear pb1 HC b1
         generalize pb.val = W2 at *
         clear pb
         have hown2 := own_below HPb.out HI.out.own
         have hz2:wr.heap.size <= W2.heap.size := HPb.out.size
         have hlen:is.length <= 1048577 := by rw [HI.out.len]; omega
         go_wp2_with (at_builtin; refine wpList_append_own _ rfl (.tmp 31) (.tmp 33) 75 rfl w.heap.size 87 i0 _ 1 8 Tryz.underlying75 hi hz0 hz1 ‹_› rfl (by decide) _ _ _ rfl (hown2.alloc _) ⟨W2.heap.size,0,none⟩ 1 1 [.pointer (some ⟨ln,0,none⟩)] rfl rfl ?c1 ?c2 ?c3 ?c4 ?c5 ?_)
         case c1=>exact news_at W2 [.pointer (some ⟨ln,0,none⟩)] 87
         case c2=>intro x hx; simp at hx; subst hx; rfl
         case c3=>unfold maxLen; omega
         case c4=>omega
         case c5=>simp; omega
         intro v' w4 hown4 hg4 hnil
         have HNext:Hid (TabsI w w4 lay D o ss (i + 1) v' (is ++ [j])) := by
           refine ⟨below_grown (HI.out.bel.trans ((HPb.out.alloc hz2 _).mono hbz)) hg4 (fun k hk=>(HI.out.own.lt k hk).1) (by simp; omega),?_,by have := HI.out.len; simp; omega,HE.out⟩
           have e:ptrC lay (is ++ [j]) = ptrC lay is ++ [.pointer (some ⟨ln,0,none⟩)] := by rw [<- HL.out]; simp [ptrC,tabPtr,layPtr]
           rw [e]
           simpa using hown4
         clear hown2 hown4 hg4 hnil
         go_wp2_with fail
         go_roundw
         case rel=>exact ⟨i + 1,_,by omega,by go_num,HNext⟩
         case measure=>simp [intOf]; omega
   · obtain rfl:i = ss.length := by omega
     have HE:Hid (o = .ok is) := by unfold Hid; rw [HI.out.ev,List.drop_length]; simp [Pl.srcsGo,Pl.addI]
     clear hbI
     go_wp2_with fail
     exact bodyPost_ret (v := .tuple #[.slice v1a is.length v1c,.int .i64 0]) (by simp [results,Tryz.results226,go_sem]) rfl ⟨HI.out.bel,.inr ⟨is,_,HE.out,rfl,HI.out.own⟩⟩
end Go.Proofs.YtojdpjpldokjmaaGreatDoor
namespace Go.Proofs.YtojdpjpldokjmaaGreatDoor.Pl
theorem scopes_snoc {db:DB}:∀ {is:List Nat} {its:List It} {i:Nat} {t:Nat} {it:It},is[i]? = some t -> its[i]? = some it -> scopes db (is.take (i + 1)) (its.take (i + 1)) = scopes db (is.take i) (its.take i) ++ scope it.other (tabD db t)
 | [],_,i,t,it,h,_=>by simp at h
 | _ :: _,[],i,t,it,_,h=>by simp at h
 | a :: is,b :: its,0,t,it,h,h' => by simp at h h'; subst h; subst h'; simp [scopes]
 | a :: is,b :: its,i + 1,t,it,h,h' => by
   have := scopes_snoc (db := db) (is := is) (its := its) (i := i) (by simpa using h) (by simpa using h')
   simp only [List.take_succ_cons,scopes]
   rw [this,List.append_assoc]
theorem onsAll_err {db:DB} {cols:List Col} {is:List Nat} {its:List It} {i t e:Nat} {it:It} (h:is[i]? = some t) (h':its[i]? = some it) (ht:tcAs (cols ++ scope it.other (tabD db t)) (cond it.tree) 3 = some e):onsAll db cols (is.drop i) (its.drop i) = some e := by
 obtain ⟨h1,rfl⟩ := List.getElem?_eq_some_iff.1 h
 obtain ⟨h2,rfl⟩ := List.getElem?_eq_some_iff.1 h'
 rw [List.drop_eq_getElem_cons h1,List.drop_eq_getElem_cons h2,onsAll,ht]
theorem onsAll_ok {db:DB} {cols:List Col} {is:List Nat} {its:List It} {i t:Nat} {it:It} (h:is[i]? = some t) (h':its[i]? = some it) (ht:tcAs (cols ++ scope it.other (tabD db t)) (cond it.tree) 3 = none):onsAll db cols (is.drop i) (its.drop i) = onsAll db (cols ++ scope it.other (tabD db t)) (is.drop (i + 1)) (its.drop (i + 1)) := by
 obtain ⟨h1,rfl⟩ := List.getElem?_eq_some_iff.1 h
 obtain ⟨h2,rfl⟩ := List.getElem?_eq_some_iff.1 h'
 rw [List.drop_eq_getElem_cons h1,List.drop_eq_getElem_cons h2,onsAll,ht]
end Go.Proofs.YtojdpjpldokjmaaGreatDoor.Pl
namespace Go.Proofs.YtojdpjpldokjmaaGreatDoor
open Go.RowKit Go.Deep
set_option linter.unusedSimpArgs false
set_option linter.unusedVariables false
theorem step_call2 {P:Program} {ops:Array Oper} {o:Oper} {a:Act} {w:World} {K:Act -> World -> Prop} {Q:Exit -> Act -> World -> Prop} {E:Prop}
   (hg:o.guard = none) (f:Nat) (x y:Operand) (tys:Array TypeId) (hop:o.op = Op.call { callee := Callee.value (Operand.func f),args := #[x,y],argTypes := tys })
   (vx vy:Value) (hent:(callFunc f #[vx,vy]).run P w = .ok (.enter f #[vx,vy]) w) (hx:a.eval x = vx) (hy:a.eval y = vy) (Post:Value -> World -> Prop) (hc:Calls P f #[vx,vy] w fun e w' => ∃ v,e = .returned v /\ Post v w')
   (hK:∀ v w',Post v w' -> K (a.put o.dst v) w') :
   if Region.wanted o (yielded ops a.tmps) = true then Oper.wp P o a w K Q else E := by
 have hw:Region.wanted o (yielded ops a.tmps) = true := by simp [Region.wanted,hg]
 rw [if_pos hw]
 have hrun:(execOp a.eval o).run P w = .ok (.enter f #[vx,vy]) w := by
   rw [<- hent,<- hx,<- hy]
   simp [execOp,hop,resolve,invoke,go_sem,Act.eval]
 unfold Oper.wp
 rw [hrun,Oper.upon_enter]
 refine hc.mono ?_
 rintro e w' ⟨v,rfl,hp⟩
 exact hK v w' hp
theorem ent_scope (vs:Array Value) (w:World):(callFunc 106 vs).run Tryz.prog w = .ok (.enter 106 vs) w := by
 have h1:(Tryz.f106.name == "runtime.NumGoroutine") = false := by kernel_rfl
 have h2 : Tryz.f106.body.isNone = false := by kernel_rfl
 have h1':¬ Tryz.f106.name = "runtime.NumGoroutine" := by simpa using h1
 have h2':¬ Tryz.f106.body = none := by intro e; rw [e] at h2; cases h2
 simp [callFunc,go_sem,Tryz.func106,h1',h2']
theorem own_news {w:World} {base:Nat} {e:TypeId} {size n:Nat} {v:Value} {xs:List Value} (h:w.ownsRow base e size v n xs) (hn:0 < n):∃ g c,v = .slice (some ⟨g,0,none⟩) n c /\ ∀ j u,xs[j]? = some u -> w.cell? ((⟨g,0,none⟩:Addr).add j) = some u := by
 rcases h.2 with ⟨rfl,h0⟩ | ⟨g,cap,cur,rfl,hb,hg,hc,hm,hs,ht⟩
 · omega
 · refine ⟨g,cap,rfl,fun j u hj=>?_⟩
   rw [addr_add,blk_cell hg]
   have hjl:j < xs.length := (List.getElem?_eq_some_iff.1 hj).1
   have := h.1
   rw [<- ht] at hj
   rw [List.getElem?_take] at hj
   split at hj
   · simpa using hj
   · cases hj
def defL:Lay := ⟨0,.slice none 0 0,[]⟩
def mkSrc (D:Pl.DB) (lay:List Lay) (cols:List Pl.Col) (i:Nat) (it:Pl.It) (cv:Value):Pl.Src :=
 ⟨(lay.getD i defL).n,it.mark,cols,Pl.cond it.tree,(Pl.tabD D i).rows.zip (lay.getD i defL).us,(Pl.tabD D i).cols.length,cv⟩
def off2 (w:World) (u v:Value):Nat -> Prop := fun k=>k < w.heap.size /\ u.ownBlock ≠ some k /\ v.ownBlock ≠ some k
theorem off2.below {w w2:World} {u v:Value} (hb:Below w.heap.size w w2) {k:Nat} (h:off2 w u v k):off2 w2 u v k /\ w2.heap[k]? = w.heap[k]? := ⟨⟨by have := hb.size; have := h.1; omega,h.2⟩,hb.block k h.1⟩
theorem off2.pushR {w2 w4:World} {u v v':Value} (hg:w2.grownBy w4 v.ownBlock) (ho:∀ k,v'.ownBlock = some k -> v.ownBlock = some k \/ w2.heap.size <= k) {k:Nat} (h:off2 w2 u v k):off2 w4 u v' k /\ w4.heap[k]? = w2.heap[k]? := by
 refine ⟨⟨by have := hg.size; have := h.1; omega,h.2.1,fun e=>?_⟩,hg.block k h.1 (fun e=>h.2.2 e.symm)⟩
 rcases ho k e with ho | ho
 · exact h.2.2 ho
 · have := h.1; omega
theorem off2.pushL {w2 w4:World} {u u' v:Value} (hg:w2.grownBy w4 u.ownBlock) (ho:∀ k,u'.ownBlock = some k -> u.ownBlock = some k \/ w2.heap.size <= k) {k:Nat} (h:off2 w2 u v k):off2 w4 u' v k /\ w4.heap[k]? = w2.heap[k]? := by
 refine ⟨⟨by have := hg.size; have := h.1; omega,fun e=>?_,h.2.2⟩,hg.block k h.1 (fun e=>h.2.1 e.symm)⟩
 rcases ho k e with ho | ho
 · exact h.2.1 ho
 · have := h.1; omega
def colsAt (D:Pl.DB) (is:List Nat) (its:List Pl.It) (i:Nat):List Pl.Col := Pl.scopes D (is.take i) (its.take i)
structure SrcsI (w wr:World) (D:Pl.DB) (lay:List Lay) (is:List Nat) (its:List Pl.It) (tv sv cv:Value) (i:Nat) (ps:List Pl.Src):Prop where
 bel:Below w.heap.size w wr
 tabs:wr.ownsRow w.heap.size 87 1 tv is.length (ptrC lay is)
 srcs:wr.ownsRow w.heap.size 284 3 sv ps.length (ps.flatMap srcC)
 cols:wr.ownsRow w.heap.size 271 3 cv (colsAt D is its i).length (colsC (colsAt D is its i))
 fits:∀ (j:Nat) (s:Pl.Src),ps[j]? = some s -> ∃ ti it u,is[j]? = some ti /\ its[j]? = some it /\ s = mkSrc D lay (colsAt D is its (j + 1)) ti it u
 progs:∀ s ∈ ps,ProgP wr (off2 wr sv cv) s.cols s.c s.cv
theorem SrcsI.below {w wr wx:World} {D:Pl.DB} {lay:List Lay} {is:List Nat} {its:List Pl.It} {tv sv cv:Value} {i:Nat} {ps:List Pl.Src} (h:SrcsI w wr D lay is its tv sv cv i ps) (hb:Below wr.heap.size wr wx):SrcsI w wx D lay is its tv sv cv i ps :=
 ⟨h.bel.trans (hb.mono h.bel.size),own_below hb h.tabs,own_below hb h.srcs,own_below hb h.cols,h.fits,fun s hs=>(RowsP.keep (h.progs s hs) (fun k hk=>(hk.below hb).2)).mono (fun k hk=>(hk.below hb).1)⟩
theorem SrcsI.more {w w2 w4:World} {D:Pl.DB} {lay:List Lay} {is:List Nat} {its:List Pl.It} {tv sv cv cv':Value} {i:Nat} {ps:List Pl.Src} (h:SrcsI w w2 D lay is its tv sv cv i ps) (hown:w4.ownsRow w.heap.size 271 3 cv' (colsAt D is its (i + 1)).length (colsC (colsAt D is its (i + 1)))) (hg:w2.grownBy w4 cv.ownBlock) (ho:∀ k,cv'.ownBlock = some k -> cv.ownBlock = some k \/ w2.heap.size <= k):SrcsI w w4 D lay is its tv sv cv' (i + 1) ps :=
 ⟨below_grown h.bel hg (fun k hk=>(h.cols.lt k hk).1) h.bel.size,own_other h.tabs h.cols hg (by decide),own_other h.srcs h.cols hg (by decide),hown,h.fits,fun s hs=>(RowsP.keep (h.progs s hs) (fun k hk=>(hk.pushR hg ho).2)).mono (fun k hk=>(hk.pushR hg ho).1)⟩
theorem SrcsI.push {w w2 w4:World} {D:Pl.DB} {lay:List Lay} {is:List Nat} {its:List Pl.It} {tv sv sv' cv u:Value} {i ti:Nat} {it:Pl.It} {ps:List Pl.Src} (h:SrcsI w w2 D lay is its tv sv cv (i + 1) ps) (hl:ps.length = i) (ht:is[i]? = some ti) (hi:its[i]? = some it) (hp:ProgP w2 (off2 w2 sv cv) (colsAt D is its (i + 1)) (Pl.cond it.tree) u)
   (hown:w4.ownsRow w.heap.size 284 3 sv' (ps.length + 1) (ps.flatMap srcC ++ srcC (mkSrc D lay (colsAt D is its (i + 1)) ti it u))) (hg:w2.grownBy w4 sv.ownBlock) (ho:∀ k,sv'.ownBlock = some k -> sv.ownBlock = some k \/ w2.heap.size <= k):SrcsI w w4 D lay is its tv sv' cv (i + 1) (ps ++ [mkSrc D lay (colsAt D is its (i + 1)) ti it u]) := by
 refine ⟨below_grown h.bel hg (fun k hk=>(h.srcs.lt k hk).1) h.bel.size,own_other h.tabs h.srcs hg (by decide),by simpa using hown,own_other h.cols h.srcs hg (by decide),fun j s hs=>?_,fun s hs=>?_⟩
 · by_cases hj:j < ps.length
   · rw [List.getElem?_append_left hj] at hs; exact h.fits j s hs
   · rw [List.getElem?_append_right (by omega)] at hs
     have hj0:j - ps.length = 0 := by
       have := (List.getElem?_eq_some_iff.1 hs).1
       simpa using this
     rw [hj0] at hs
     simp at hs
     obtain rfl:j = i := by omega
     exact ⟨ti,it,u,ht,hi,hs.symm⟩
 · rcases List.mem_append.1 hs with hs | hs
   · exact (RowsP.keep (h.progs s hs) (fun k hk=>(hk.pushL hg ho).2)).mono (fun k hk=>(hk.pushL hg ho).1)
   · simp at hs
     subst hs
     exact (RowsP.keep hp (fun k hk=>(off2.pushL hg ho hk).2)).mono (fun k hk=>(off2.pushL hg ho hk).1)
theorem off2_new {w w2:World} {base base':Nat} {e e':TypeId} {size size' n n':Nat} {u v:Value} {xs ys:List Value} (hu:w.ownsRow base e size u n xs) (hv:w.ownsRow base' e' size' v n' ys) {k:Nat} (h:newP w.heap.size w2.heap.size k):off2 w2 u v k :=
 ⟨h.2,fun e=>by have := (hu.lt k e).2; have := h.1; omega,fun e=>by have := (hv.lt k e).2; have := h.1; omega⟩
structure SrcsIn (w:World) (ss:List (Pl.It × Value)) (v:Value):Prop where
 rows:RowsW w w.heap.size 4 siC ss v
 trees:∀ s ∈ ss,TrW w w.heap.size s.1.tree s.2
 ok:∀ s ∈ ss,Pl.okW s.1.tree
 len:ss.length <= 3
 cap:∀ a n c,v = .slice a n c -> n <= c
 rules:RulesAt w
 glob : 9 < w.heap.size
theorem SrcsIn.below {w w':World} {ss:List (Pl.It × Value)} {v:Value} (h:SrcsIn w ss v) (hb:Below w.heap.size w w'):SrcsIn w' ss v :=
 ⟨h.rows.below hb,fun s hs=>((h.trees s hs).keep (fun k hk=>hb.block k hk)).more hb.size,h.ok,h.len,h.cap,h.rules.keep (hb.block _ h.glob),Nat.lt_of_lt_of_le h.glob hb.size⟩
def SrcErr (D:Pl.DB) (its:List Pl.It) (er:Nat):Prop := Pl.srcsGo D [] its = .error er \/ ∃ is,Pl.srcsGo D [] its = .ok is /\ Pl.onsAll D [] is its = some er
def PostSrcs (w:World) (D:Pl.DB) (lay:List Lay) (its:List Pl.It) (e:Ending) (w':World):Prop := Below w.heap.size w w' /\
 ((∃ er,SrcErr D its er /\ (er = 2 \/ er = 3) /\ e = .returned (.tuple #[.slice none 0 0,.slice none 0 0,.int .i64 (er:Nat)])) \/
  (∃ is ps tv sv cv,Pl.srcsGo D [] its = .ok is /\ Pl.onsAll D [] is its = none /\ ps.length = is.length /\ SrcsI w w' D lay is its tv sv cv is.length ps /\ e = .returned (.tuple #[sv,cv,.int .i64 0])))
theorem own_nil {w:World} {base:Nat} {e:TypeId} {size:Nat}:w.ownsRow base e size (.slice none 0 0) 0 [] := World.ownsRow_nil _ _ _ _
theorem colsAt_len {D:Pl.DB} (h:Pl.okDB D):∀ (is:List Nat) (its:List Pl.It),(∀ i ∈ is,i < D.length) -> (Pl.scopes D is its).length <= is.length * 5
 | [],its,_=>by cases its <;> simp [Pl.scopes]
 | i :: is,[],_=>by simp [Pl.scopes]
 | i :: is,it :: its,hi=>by
   have h1 := colsAt_len h is its (fun j hj=>hi j (by simp [hj]))
   have h2 := (h.2 _ (Pl.tabD_mem (hi i (by simp)))).ncols
   simp only [Pl.scopes,List.length_append,Pl.scope_len,List.length_cons]
   omega
theorem one_cells (cs:List Pl.Col):∀ u ∈ colsC cs,u.oneCell' = true := by
 intro u hu
 obtain ⟨c,_,hc⟩ := List.mem_flatMap.1 hu
 simp [colC] at hc
 rcases hc with rfl | rfl | rfl <;> rfl
theorem colsC_len (cs:List Pl.Col):(colsC cs).length = cs.length * 3 := by
 induction cs with
 | nil=>rfl
 | cons c cs ih =>
   have e:colsC (c :: cs) = colC c ++ colsC cs := by simp [colsC]
   rw [e,List.length_append,ih]
   simp [colC]; omega
theorem scopeAt {w:World} {M:Nat -> Prop} {b:Nat} {lay:List Lay} {D:Pl.DB} (h:DbW w M b lay D) {ti:Nat} (hti:ti < D.length) (src:List UInt8) :
   Calls Tryz.prog 106 #[.pointer (some ⟨(lay.getD ti defL).n,0,none⟩),.string ⟨src.toArray⟩] w fun e w' => ∃ v,e = .returned v /\ ∃ g c,v = .slice (some ⟨g,0,none⟩) (Pl.tabD D ti).cols.length c /\ Below w.heap.size w w' /\ ∀ j u,(colsC (Pl.scope src (Pl.tabD D ti)))[j]? = some u -> w'.cell? ((⟨g,0,none⟩:Addr).add j) = some u := by
 have hdi:D[ti]? = some D[ti] := List.getElem?_eq_getElem hti
 have hlt:ti < lay.length := by rw [h.len]; exact hti
 have hli:lay[ti]? = some lay[ti] := List.getElem?_eq_getElem hlt
 have e1:lay.getD ti defL = lay[ti] := by simp [List.getD,hli]
 have e2:Pl.tabD D ti = D[ti] := by simp [Pl.tabD,List.getD,hdi]
 have hT := h.tabs ti _ _ hli hdi
 have hok := h.ok.2 _ (List.getElem_mem hti)
 rw [e1,e2]
 obtain ⟨cv,hblk,hcv,_⟩ := hT.blk
 have c1 := blk_cell hblk 1
 simp at c1
 refine (scopeM src _ _ cv w (lt_of_blk hblk) c1 (tcsC_rows hcv) (by have := hok.ncols; omega)).mono ?_
 rintro e w' ⟨hb,v,rfl,hown⟩
 obtain ⟨g,c,hv,hc⟩ := own_news hown (by have := hok.pos; simp; omega)
 exact ⟨v,rfl,g,c,by simpa using hv,hb,by rw [scope_map]; exact hc⟩
theorem Tryz.infoSrc:(Tryz.prog.info? 284).map (fun i=>(i.zero,i.size,i.bytes)) = some (some (.agg #[.pointer none,.bool false,.slice none 0 0]),3,40) := by kernel_rfl
theorem compileSourcesM (ss:List (Pl.It × Value)) (v:Value) (w:World) (M:Nat -> Prop) (b:Nat) (lay:List Lay) (D:Pl.DB) (h:DbW w M b lay D) (hss:SrcsIn w ss v) :
   Calls Tryz.prog 169 #[.pointer (some ⟨b,0,none⟩),v] w (PostSrcs w D lay (ss.map (·.1))) := by
 obtain ⟨sa,sc,rfl⟩ := hss.rows.slice
 obtain ⟨i0,hi,hz0,hz1,hz2⟩ := info_parts Tryz.infoCol
 obtain ⟨j0,hj,hy0,hy1,hy2⟩ := info_parts Tryz.infoSrc
 have hl3 := hss.len
 have HTabs := hide (tablesOfM ss _ w M b lay D h hss.rows (fun s hs=>(hss.trees s hs).ptr) (by omega) hss.cap)
 have HSS := hide hss
 have HDb := hide h
 clear hss h
 go_enter Tryz.func169,Tryz.ntmps169
 go_wp2_with fail
 refine (unhide HTabs).mono ?_
 rintro e w1 ⟨hb1,hpost⟩
 clear HTabs
 rcases hpost with ⟨herr,rfl⟩ | ⟨is,tv,hok,rfl,htabs⟩
 · have HE:Hid (SrcErr D (ss.map (·.1)) 2) := .inl herr
   have HB := hide hb1
   clear hb1 herr
   go_wp2_with fail
   exact bodyPost_ret (v := .tuple #[.slice none 0 0,.slice none 0 0,.int .i64 2]) (by simp [results,Tryz.results169,go_sem]) rfl ⟨HB.out,.inl ⟨2,HE.out,.inl rfl,rfl⟩⟩
 · obtain ⟨hisl,hisd⟩ := Pl.srcsGo_len hok
   simp only [List.length_map] at hisl
   have HI0:Hid (SrcsI w w1 D lay is (ss.map (·.1)) tv (.slice none 0 0) (.slice none 0 0) 0 [] /\ Pl.onsAll D (colsAt D is (ss.map (·.1)) 0) (is.drop 0) ((ss.map (·.1)).drop 0) = Pl.onsAll D [] is (ss.map (·.1))) :=
     ⟨⟨hb1,htabs,own_nil,by simpa [colsAt,Pl.scopes,colsC] using own_nil,by simp,by simp⟩,by simp [colsAt,Pl.scopes]⟩
   obtain ⟨ta,tc,htv⟩ := own_slice1 htabs
   have HOk := hide hok
   have HIs := hide hisd
   have HIl := hide hisl
   clear hok hisd hisl hb1 htabs
   rw [htv] at HI0
   rw [htv]
   clear htv
   go_wp2_with fail
   go_loopw [9,10,26] (fun s9 s10 s26 wr=>∃ (i:Nat) (ps:List Pl.Src),i <= ss.length /\ s26 = .int .i64 i /\ ps.length = i /\ Hid (SrcsI w wr D lay is (ss.map (·.1)) (.slice ta is.length tc) s9 s10 i ps /\ Pl.onsAll D (colsAt D is (ss.map (·.1)) i) (is.drop i) ((ss.map (·.1)).drop i) = Pl.onsAll D [] is (ss.map (·.1)))) (fun _ _ a _=>ss.length - (intOf a).toNat)
   case atStart=>exact ⟨0,[],Nat.zero_le _,rfl,rfl,HI0⟩
   case round =>
     obtain ⟨i,ps,hi',rfl,hpl,HI⟩ := hrel
     clear HI0
     have HPl := hide hpl
     clear hpl
     have hbI := HI.out.1.bel
     have hbz := hbI.size
     obtain ⟨v1a,v1c,rfl⟩ := own_slice1 HI.out.1.srcs
     obtain ⟨v2a,v2c,rfl⟩ := own_slice1 HI.out.1.cols
     generalize hcl:(colsAt D is (ss.map (·.1)) i).length = cl at *
     have HCl := hide hcl
     clear hcl
     by_cases hlt:i < ss.length
     · have hsi:ss[i]? = some ss[i] := List.getElem?_eq_getElem hlt
       have hmem := List.getElem_mem hlt
       generalize ss[i] = s at *
       obtain ⟨it,tv⟩ := s
       obtain ⟨ti,hti⟩:∃ ti,is[i]? = some ti := ⟨_,List.getElem?_eq_getElem (by rw [HIl.out]; exact hlt)⟩
       have hits:(ss.map (·.1))[i]? = some it := by rw [List.getElem?_map,hsi]; rfl
       obtain ⟨g,cap,he,hg,e0,e1,e2,e3⟩ := (HSS.out.rows.keep (fun k hk=>hbI.block k hk)).si hsi
       cases he
       have hgz:g < wr.heap.size := by omega
       simp only at e0 e1 e2 e3
       obtain ⟨a,ha⟩ := (HSS.out.trees _ hmem).ptr
       simp only at ha
       subst ha
       have htil:ti < D.length := HIs.out ti (List.mem_of_getElem? hti)
       obtain ⟨gt,gc,hgt,hgt2⟩ := own_news HI.out.1.tabs (by rw [HIl.out]; omega)
       cases hgt
       have et:wr.cell? ⟨gt,i,none⟩ = some (.pointer (some ⟨(lay.getD ti defL).n,0,none⟩)) := by
         have := hgt2 i _ (by rw [ptrC,List.getElem?_map,hti]; rfl)
         rw [addr_add] at this
         exact this
       have hgtz:gt < wr.heap.size := by
         have := (HI.out.1.tabs.lt gt rfl).2
         exact this
       have htl:i < is.length := by rw [HIl.out]; exact hlt
       have HScope:Hid (∀ W',Below wr.heap.size wr W' -> _) := fun W' hW=>scopeAt (HDb.out.below (hbI.trans (hW.mono hbz))) htil it.other
       have HCols:Hid (colsAt D is (ss.map (·.1)) (i + 1) = colsAt D is (ss.map (·.1)) i ++ Pl.scope it.other (Pl.tabD D ti)) := Pl.scopes_snoc hti hits
       generalize htn:(lay.getD ti defL).n = tn at *
       have HTn := hide htn
       have HTi := hide hti
       have HIts := hide hits
       have HTil := hide htil
       have HMem := hide hmem
       have HBA:Hid (Below wr.heap.size wr (wr.alloc (.cells #[.string ⟨it.name.toArray⟩,.string ⟨it.other.toArray⟩,.bool it.mark,.pointer a] 324)).drew) := ((Below.refl _ _).alloc (Nat.le_refl _) _).drew
       have HBA2 := hide (blk_new wr (.cells #[.string ⟨it.name.toArray⟩,.string ⟨it.other.toArray⟩,.bool it.mark,.pointer a] 324))
       have HOld:Hid (∀ W',Below wr.heap.size wr W' -> W'.ownsRow w.heap.size 271 3 (.slice v2a cl v2c) cl (colsC (colsAt D is (ss.map (·.1)) i))) := fun W' hW=>by
         have := own_below hW HI.out.1.cols
         rw [HCl.out] at this
         exact this
       have HNcol:Hid ((Pl.tabD D ti).cols.length <= 5) := (HDb.out.ok.2 _ (Pl.tabD_mem htil)).ncols
       have HClen:Hid (cl <= 100) := by
         have := colsAt_len HDb.out.ok (is.take i) ((ss.map (·.1)).take i) (fun j hj=>HIs.out j (List.mem_of_mem_take hj))
         have h2:(is.take i).length <= 3 := by rw [List.length_take]; omega
         unfold Hid
         rw [<- HCl.out]
         unfold colsAt
         omega
       have HScl:Hid ((colsC (Pl.scope it.other (Pl.tabD D ti))).length = (Pl.tabD D ti).cols.length * 3) := by unfold Hid; rw [colsC_len,Pl.scope_len]
       have HOne := hide (one_cells (Pl.scope it.other (Pl.tabD D ti)))
       clear htn hti hits htil hmem hbI hgt2 hsi
       generalize hnc:(Pl.tabD D ti).cols.length = nc at *
       have HNc := hide hnc
       clear hnc
       go_upto_region 9 with fail
       go_region_law (first
         | (refine step_call2 rfl 106 (.tmp 35) (.tmp 37) _ rfl (.pointer (some ⟨tn,0,none⟩)) (.string ⟨it.other.toArray⟩) (ent_scope _ _) (by simp [Act.eval,Act.put]) (by simp [Act.eval,Act.put]) _ ((unhide HScope) _ HBA.out) ?_
            rintro v9 w9 ⟨g9,c9,rfl,hb9,hc9⟩
            have HX9:Hid (w9.heap[wr.heap.size]? = some (.cells #[.string ⟨it.name.toArray⟩,.string ⟨it.other.toArray⟩,.bool it.mark,.pointer a] 324)) := (hb9.block _ (by simp [World.drew])).trans HBA2.out
            have HB9 := hide (HBA.out.trans (hb9.mono HBA.out.size))
            have HC9 := hide hc9
            clear hb9 hc9)
         | (refine step_append_at rfl (.tmp 31) (.tmp 38) 207 rfl w.heap.size 271 i0 _ 3 40 Tryz.underlying207 hi hz0 hz1 hz2 rfl (by decide) _ _ _ (by simp [Act.eval,Act.put]) (HOld.out _ HB9.out) ⟨g9,0,none⟩ nc c9 (colsC (Pl.scope it.other (Pl.tabD D ti))) (by simp [Act.eval,Act.put]) HScl.out HC9.out HOne.out (by have := HNcol.out; have := HClen.out; unfold maxLen; omega) (by have := HNcol.out; have := HClen.out; omega) (by have := HB9.out.size; omega) ?_
            intro v8 w8 hown8 hg8 hfr8
            have HOwn8 := hide hown8
            have HG8 := hide hg8
            have HFr8 := hide hfr8
            clear hown8 hg8 hfr8))
       all_goals
         have hI8 := (HI.out.1.below HB9.out).more (cv' := v8) (w4 := w8) (by rw [HCols.out,colsC_app,List.length_append,Pl.scope_len,HCl.out,HNc.out]; exact HOwn8.out) HG8.out HFr8.out
         have hx8:w8.heap[wr.heap.size]? = some (.cells #[.string ⟨it.name.toArray⟩,.string ⟨it.other.toArray⟩,.bool it.mark,.pointer a] 324) := (HG8.out.block _ (lt_of_blk HX9.out) (fun e=>by have := (HI.out.1.cols.lt _ e.symm).2; omega)).trans HX9.out
         have hz8:wr.heap.size < w8.heap.size := lt_of_blk hx8
         have y2 := blk_cell hx8 2
         have y3 := blk_cell hx8 3
         simp at y2 y3
         have hS8 := HSS.out.below hI8.bel
         have HCond := hide (conditionM it.tree (colsAt D is (ss.map (·.1)) (i + 1)) (.pointer a) v8 w8 ⟨hS8.rules,hS8.glob,hS8.trees _ HMem.out,hS8.ok _ HMem.out,own_rows (f := colC) (fun _=>rfl) hI8.cols (Nat.le_refl _),by rw [HCols.out,List.length_append,Pl.scope_len,HCl.out,HNc.out]; have := HNcol.out; have := HClen.out; omega⟩)
         obtain ⟨v8a,v8n,v8c,rfl⟩ := own_slice hI8.cols
         have HI8 := hide hI8
         have HX8 := hide hx8
         clear hI8 hS8 hx8 HOwn8 HG8 HFr8 HB9 HX9 HC9 e0 e1 e2 e3 et HScope HOld
         go_wp2_with fail
         refine (unhide HCond).mono ?_
         rintro e w5 ⟨hb5,hpost⟩
         clear HCond
         rcases hpost with ⟨er,her,rfl⟩ | ⟨cv5,htc,rfl,hprog⟩
         · have hne:((er:Int) != 0) = true := by have := tcAs_err her; simp; omega
           have HE:Hid (PostSrcs w D lay (ss.map (·.1)) (.returned (.tuple #[.slice none 0 0,.slice none 0 0,.int .i64 (er:Nat)])) (w5.alloc (.cells #[.slice none 0 0] 204))) := by
             refine ⟨(HI8.out.bel.trans (hb5.mono HI8.out.bel.size)).alloc (by have := HI8.out.bel.size; have := hb5.size; omega) _,.inl ⟨er,.inr ⟨is,HOk.out,?_⟩,tcAs_err her,rfl⟩⟩
             rw [<- HI.out.2]
             rw [HCols.out] at her
             exact Pl.onsAll_err HTi.out HIts.out her
           clear her hb5
           go_wp2_with fail
           exact bodyPost_ret (v := .tuple #[.slice none 0 0,.slice none 0 0,.int .i64 (er:Nat)]) (by simp [results,Tryz.results169,go_sem]) rfl HE.out
         · have hI5 := HI8.out.below hb5
           obtain ⟨pa,pn,pc,rfl⟩ := hprog.slice
           have HP5:Hid (ProgP w5 (off2 w5 (.slice v1a ps.length v1c) (.slice v8a v8n v8c)) (colsAt D is (ss.map (·.1)) (i + 1)) (Pl.cond it.tree) (.slice pa pn pc)) := RowsP.mono hprog (fun k hk=>off2_new HI8.out.srcs HI8.out.cols hk)
           have et5:w5.cell? ⟨gt,i,none⟩ = some (.pointer (some ⟨tn,0,none⟩)) := by
             obtain ⟨gt',gc',hgt',hgt2'⟩ := own_news hI5.tabs (by rw [HIl.out]; omega)
             cases hgt'
             have := hgt2' i _ (by rw [ptrC,List.getElem?_map,HTi.out]; rfl)
             rw [addr_add] at this
             rw [<- HTn.out]
             exact this
           have hx5 := below_blk hb5 hz8 HX8.out
           have z2 := blk_cell hx5 2
           simp at z2
           have hz5:w8.heap.size <= w5.heap.size := hb5.size
           have hgt5:gt < w5.heap.size := by omega
           have hwr5:wr.heap.size < w5.heap.size := by omega
           have hps:ps.length <= 3 := by rw [HPl.out]; omega
           have HBY:Hid (Below w5.heap.size w5 ((w5.alloc (.cells #[.slice pa pn pc] 204)).drew.alloc (.cells #[.pointer (some ⟨tn,0,none⟩),.bool it.mark,.slice pa pn pc] 284))) := (((Below.refl _ _).alloc (Nat.le_refl _) _).drew).alloc (by simp [World.drew]) _
           have HNw:Hid (∀ j u,[Value.pointer (some ⟨tn,0,none⟩),.bool it.mark,.slice pa pn pc][j]? = some u -> ((w5.alloc (.cells #[.slice pa pn pc] 204)).drew.alloc (.cells #[.pointer (some ⟨tn,0,none⟩),.bool it.mark,.slice pa pn pc] 284)).cell? ((⟨w5.heap.size + 1,0,none⟩:Addr).add j) = some u) := by
             have := news_at (w5.alloc (.cells #[.slice pa pn pc] 204)).drew [.pointer (some ⟨tn,0,none⟩),.bool it.mark,.slice pa pn pc] 284
             rw [show (w5.alloc (.cells #[.slice pa pn pc] 204)).drew.heap.size = w5.heap.size + 1 by simp [World.drew]] at this
             exact this
           have HOn:Hid (∀ u ∈ [Value.pointer (some ⟨tn,0,none⟩),.bool it.mark,.slice pa pn pc],u.oneCell' = true) := by
             intro u hu
             simp at hu
             rcases hu with rfl | rfl | rfl <;> rfl
           have HEv:Hid (Pl.onsAll D (colsAt D is (ss.map (·.1)) (i + 1)) (is.drop (i + 1)) ((ss.map (·.1)).drop (i + 1)) = Pl.onsAll D [] is (ss.map (·.1))) := by
             unfold Hid
             rw [<- HI.out.2,HCols.out]
             rw [HCols.out] at htc
             exact (Pl.onsAll_ok HTi.out HIts.out htc).symm
           have HI5 := hide hI5
           have hwz5:w.heap.size <= w5.heap.size := by omega
           have HYz := hide (Nat.le_trans hwz5 HBY.out.size)
           clear hI5 hx5 hprog htc hb5 y2 y3 HX8 HI8
           go_upto_region 13 with fail
           go_region_law (refine step_append_at rfl (.tmp 50) (.tmp 59) 219 rfl w.heap.size 284 j0 _ 3 40 Tryz.underlying219 hj hy0 hy1 hy2 rfl (by decide) _ _ _ (by simp [Act.eval,Act.put]) (own_below HBY.out HI5.out.srcs) ⟨w5.heap.size + 1,0,none⟩ 1 1 [.pointer (some ⟨tn,0,none⟩),.bool it.mark,.slice pa pn pc] (by simp [Act.eval,Act.put]) rfl HNw.out HOn.out (by unfold maxLen; omega) (by omega) HYz.out ?_
                          intro v7 w7 hown7 hg7 hfr7
                          have HOwn7 := hide hown7
                          have HG7 := hide hg7
                          have HFr7 := hide hfr7
                          clear hown7 hg7 hfr7)
           all_goals
             have HNext:Hid (SrcsI w w7 D lay is (ss.map (·.1)) (.slice (some ⟨gt,0,none⟩) is.length tc) v7 (.slice v8a v8n v8c) (i + 1) (ps ++ [mkSrc D lay (colsAt D is (ss.map (·.1)) (i + 1)) ti it (.slice pa pn pc)])) := by
               have e:srcC (mkSrc D lay (colsAt D is (ss.map (·.1)) (i + 1)) ti it (.slice pa pn pc)) = [.pointer (some ⟨tn,0,none⟩),.bool it.mark,.slice pa pn pc] := by rw [<- HTn.out]; rfl
               exact (HI5.out.below HBY.out).push HPl.out HTi.out HIts.out ((RowsP.keep HP5.out (fun k hk=>(off2.below HBY.out hk).2)).mono (fun k hk=>(off2.below HBY.out hk).1)) (by rw [e]; exact HOwn7.out) HG7.out HFr7.out
             clear HOwn7 HG7 HFr7
             go_wp2_with fail
             go_roundw
             case rel=>exact ⟨i + 1,_,by omega,by go_num,by rw [List.length_append,HPl.out]; rfl,HNext.out,HEv.out⟩
             case measure=>simp [intOf]; omega
     · obtain rfl:i = ss.length := by omega
       have HE:Hid (PostSrcs w D lay (ss.map (·.1)) (.returned (.tuple #[.slice v1a ps.length v1c,.slice v2a cl v2c,.int .i64 0])) wr) := by
         have h1 := HI.out.1
         have h2 := HI.out.2
         rw [<- HIl.out] at h1 h2
         rw [List.drop_length] at h2
         exact ⟨h1.bel,.inr ⟨is,ps,_,_,_,HOk.out,by rw [<- h2]; simp [Pl.onsAll],by rw [HPl.out,HIl.out],h1,rfl⟩⟩
       clear hbI
       go_wp2_with fail
       exact bodyPost_ret (v := .tuple #[.slice v1a ps.length v1c,.slice v2a cl v2c,.int .i64 0]) (by simp [results,Tryz.results169,go_sem]) rfl HE.out
def SrcL (D:Pl.DB) (lay:List Lay):List Pl.Col -> List Nat -> List Pl.It -> List Pl.Src -> Prop
 | cols,i :: is,it :: its,s :: ss=>(∃ u,s = mkSrc D lay (cols ++ Pl.scope it.other (Pl.tabD D i)) i it u) /\ SrcL D lay (cols ++ Pl.scope it.other (Pl.tabD D i)) is its ss
 | _,[],[],[]=>True
 | _,_,_,_=>False
theorem srcL_of {D:Pl.DB} {lay:List Lay}:∀ {ps:List Pl.Src} {is:List Nat} {its:List Pl.It} {cols:List Pl.Col},ps.length = is.length -> is.length = its.length ->
   (∀ (j:Nat) (s:Pl.Src),ps[j]? = some s -> ∃ ti it u,is[j]? = some ti /\ its[j]? = some it /\ s = mkSrc D lay (cols ++ Pl.scopes D (is.take (j + 1)) (its.take (j + 1))) ti it u) -> SrcL D lay cols is its ps
 | [],[],[],cols,_,_,_=>trivial
 | [],[],_ :: _,_,_,h,_=>by simp at h
 | [],_ :: _,_,_,h,_,_=>by simp at h
 | _ :: _,[],_,_,h,_,_=>by simp at h
 | _ :: _,_ :: _,[],_,_,h,_=>by simp at h
 | s :: ps,i :: is,it :: its,cols,h1,h2,h=>by
   obtain ⟨ti,it',u,e1,e2,e3⟩ := h 0 s rfl
   simp at e1 e2
   subst e1; subst e2
   refine ⟨⟨u,by rw [e3]; simp [Pl.scopes]⟩,srcL_of (by simpa using h1) (by simpa using h2) (fun j x hx=>?_)⟩
   obtain ⟨ti',it',u',k1,k2,k3⟩ := h (j + 1) x (by simpa using hx)
   refine ⟨ti',it',u',by simpa using k1,by simpa using k2,?_⟩
   rw [k3]
   simp only [List.take_succ_cons,Pl.scopes,List.append_assoc]
theorem zip_fst {α β:Type}:∀ {a:List α} {b:List β},a.length <= b.length -> (a.zip b).map (·.1) = a
 | [],b,_=>by simp
 | _ :: _,[],h=>by simp at h
 | x :: a,y :: b,h=>by simp [zip_fst (a := a) (b := b) (by simpa using h)]
theorem DbW.us {w:World} {M:Nat -> Prop} {b:Nat} {lay:List Lay} {D:Pl.DB} (h:DbW w M b lay D) {i:Nat} (hi:i < D.length):TabW w M (lay.getD i defL) (Pl.tabD D i) /\ (lay.getD i defL).us.length = (Pl.tabD D i).rows.length /\ Pl.okTab (Pl.tabD D i) := by
 have hdi:D[i]? = some D[i] := List.getElem?_eq_getElem hi
 have hli:lay[i]? = some (lay[i]'(by rw [h.len]; exact hi)) := List.getElem?_eq_getElem _
 have e1:lay.getD i defL = lay[i]'(by rw [h.len]; exact hi) := by simp [List.getD,hli]
 have e2:Pl.tabD D i = D[i] := by simp [Pl.tabD,List.getD,hdi]
 have hT := h.tabs i _ _ hli hdi
 rw [e1,e2]
 exact ⟨hT,by have := hT.rows.1; omega,h.ok.2 _ (List.getElem_mem hi)⟩
theorem joinsP_all {D:Pl.DB} {lay:List Lay}:∀ {ps:List Pl.Src} {is:List Nat} {its:List Pl.It} {cols:List Pl.Col} {rows:List (List Pl.V)},SrcL D lay cols is its ps -> (∀ i ∈ is,(lay.getD i defL).us.length = (Pl.tabD D i).rows.length) -> Pl.joinsP ps rows = Pl.joinsAll D cols rows is its
 | [],[],[],cols,rows,_,_=>rfl
 | [],[],_ :: _,_,_,h,_=>h.elim
 | [],_ :: _,[],_,_,h,_=>h.elim
 | [],_ :: _,_ :: _,_,_,h,_=>h.elim
 | _ :: _,[],[],_,_,h,_=>h.elim
 | _ :: _,[],_ :: _,_,_,h,_=>h.elim
 | _ :: _,_ :: _,[],_,_,h,_=>h.elim
 | s :: ps,i :: is,it :: its,cols,rows,⟨⟨u,hs⟩,hr⟩,hz=>by
   have hq:s.qs.map (·.1) = (Pl.tabD D i).rows := by rw [hs]; exact zip_fst (Nat.le_of_eq (hz i (by simp)).symm)
   unfold Pl.joinsP Pl.joinsAll
   rw [hq]
   rw [hs]
   simp only [mkSrc]
   cases Pl.joinRows (cols ++ Pl.scope it.other (Pl.tabD D i)) (Pl.cond it.tree) it.mark (Pl.tabD D i).cols.length (Pl.tabD D i).rows rows with
   | error e=>rfl
   | ok z=>exact joinsP_all hr (fun j hj=>hz j (by simp [hj]))
theorem onsAll_cons {db:Pl.DB} {cols:List Pl.Col} {i:Nat} {is:List Nat} {it:Pl.It} {its:List Pl.It} (h:Pl.onsAll db cols (i :: is) (it :: its) = none):Pl.tcAs (cols ++ Pl.scope it.other (Pl.tabD db i)) (Pl.cond it.tree) 3 = none /\ Pl.onsAll db (cols ++ Pl.scope it.other (Pl.tabD db i)) is its = none := by
 rw [Pl.onsAll] at h
 cases ht:Pl.tcAs (cols ++ Pl.scope it.other (Pl.tabD db i)) (Pl.cond it.tree) 3 with
 | none=>rw [ht] at h; exact ⟨rfl,h⟩
 | some e=>rw [ht] at h; cases h
theorem srcsOk_of {D:Pl.DB} {lay:List Lay} (hD:Pl.okDB D):∀ {ps:List Pl.Src} {is:List Nat} {its:List Pl.It} {cols:List Pl.Col} {rows:List (List Pl.V)},SrcL D lay cols is its ps -> (∀ i ∈ is,(lay.getD i defL).us.length = (Pl.tabD D i).rows.length /\ i < D.length) -> (∀ it ∈ its,Pl.okW it.tree) -> Pl.onsAll D cols is its = none -> (∀ r ∈ rows,Pl.RowFor cols r) -> cols.length + 5 * ps.length <= 100 -> rows.length * 25 ^ ps.length <= 20000 -> Pl.SrcsOk ps rows
 | [],_,_,_,_,_,_,_,_,_,_,_=>trivial
 | _ :: _,[],[],_,_,h,_,_,_,_,_,_=>h.elim
 | _ :: _,[],_ :: _,_,_,h,_,_,_,_,_,_=>h.elim
 | _ :: _,_ :: _,[],_,_,h,_,_,_,_,_,_=>h.elim
 | s :: ps,i :: is,it :: its,cols,rows,⟨⟨u,hs⟩,hr⟩,hz,hw,ho,hrow,hc,hn=>by
   obtain ⟨ht,ho2⟩ := onsAll_cons ho
   obtain ⟨hz1,hz2⟩ := hz i (by simp)
   have htab := hD.2 _ (Pl.tabD_mem hz2)
   have hq:s.qs.map (·.1) = (Pl.tabD D i).rows := by rw [hs]; exact zip_fst (Nat.le_of_eq hz1.symm)
   have hql:s.qs.length = (Pl.tabD D i).rows.length := by rw [<- hq]; simp
   have hqf:∀ q ∈ s.qs,Pl.RowFor (Pl.scope it.other (Pl.tabD D i)) q.1 := fun q hq' => (htab.rows _ (by rw [<- hq]; exact List.mem_map_of_mem hq')).src
   have hscl := Pl.scope_len it.other (Pl.tabD D i)
   have e1:s.cols = cols ++ Pl.scope it.other (Pl.tabD D i) := by rw [hs]; rfl
   have e2:s.c = Pl.cond it.tree := by rw [hs]; rfl
   have e3:s.n = (Pl.tabD D i).cols.length := by rw [hs]; rfl
   have h5 := htab.ncols
   have h1 := htab.pos
   have hpow:1 <= 25 ^ ps.length := Nat.one_le_pow _ _ (by omega)
   have hrl:rows.length * 25 * 25 ^ ps.length <= 20000 := by
     rw [List.length_cons,Nat.pow_succ,Nat.mul_comm (25 ^ ps.length) 25,<- Nat.mul_assoc] at hn
     exact hn
   have hrl2:rows.length * 25 <= 20000 := Nat.le_trans (Nat.le_mul_of_pos_right _ (by omega)) hrl
   simp only [List.length_cons] at hc
   refine ⟨⟨?_,?_,?_,?_,by omega,by omega,by omega,by rw [hql]; exact htab.nrows⟩,?_⟩
   · rw [e1,e2]
     obtain ⟨ty,h,_⟩ := Pl.tcAs_ok ht
     exact ⟨Pl.cond_ok (hw it (by simp)),ty,h⟩
   · intro p hp q hq'
     have := (hrow p hp).append (hqf q hq')
     rw [e1]
     exact ⟨this.2.1,Nat.le_of_eq this.1.symm⟩
   · intro p hp
     rw [(hrow p hp).1]; omega
   · intro q hq'
     have := (hqf q hq').1
     refine ⟨by omega,fun e=>?_⟩
     rw [e] at this
     simp at this
     omega
   · intro z hzz
     rw [hq,e1,e2,e3,<- hscl] at hzz
     obtain ⟨k1,k2⟩ := Pl.joinRows_ok (fun q hq' => (htab.rows q hq').src) htab.nrows hrow hzz
     refine srcsOk_of hD hr (fun j hj=>hz j (by simp [hj])) (fun j hj=>hw j (by simp [hj])) ho2 k1 (by rw [List.length_append]; omega) (Nat.le_trans (Nat.mul_le_mul_right _ k2) hrl)
theorem SrcL.at {D:Pl.DB} {lay:List Lay}:∀ {ps:List Pl.Src} {is:List Nat} {its:List Pl.It} {cols:List Pl.Col},SrcL D lay cols is its ps -> ∀ s ∈ ps,∃ c i it u,i ∈ is /\ s = mkSrc D lay c i it u
 | [],_,_,_,_,s,hs=>by simp at hs
 | _ :: _,[],[],_,h,_,_=>h.elim
 | _ :: _,[],_ :: _,_,h,_,_=>h.elim
 | _ :: _,_ :: _,[],_,h,_,_=>h.elim
 | x :: ps,i :: is,it :: its,cols,⟨⟨u,hx⟩,hr⟩,s,hs=>by
   rcases List.mem_cons.1 hs with rfl | hs
   · exact ⟨_,i,it,u,by simp,hx⟩
   · obtain ⟨c,j,jt,u',h1,h2⟩ := SrcL.at hr s hs
     exact ⟨c,j,jt,u',by simp [h1],h2⟩
theorem srcW_of {w:World} {M:Nat -> Prop} {b:Nat} {lay:List Lay} {D:Pl.DB} (h:DbW w M b lay D) {i:Nat} (hi:i < D.length) {cols:List Pl.Col} {it:Pl.It} {u:Value} {s:Pl.Src} (hs:s = mkSrc D lay cols i it u) (hp:ProgW w w.heap.size s.cols s.c s.cv):SrcW w w.heap.size s.cols s.tn s.lf s.c s.qs s.n s.cv := by
 obtain ⟨hT,hl,hok⟩ := h.us hi
 obtain ⟨cv,hblk,hcv,_⟩ := hT.blk
 have c1 := blk_cell hblk 1
 have c2 := blk_cell hblk 2
 simp at c1 c2
 have hrow := hT.rows
 subst hs
 refine ⟨hp,lt_of_blk hblk,⟨_,c2,?_⟩,fun q hq=>?_,?_⟩
 · refine own_rows (f := fun p:Pl.PRow=>[p.2]) (fun _=>rfl) (base := 0) (e := 32) ?_ (Nat.le_refl _)
   have e:((Pl.tabD D i).rows.zip (lay.getD i defL).us).flatMap (fun p:Pl.PRow=>[p.2]) = (lay.getD i defL).us := by
     rw [sndC_flat]
     unfold sndC
     have:∀ (a:List (List Pl.V)) (b:List Value),b.length = a.length -> (a.zip b).map (·.2) = b := fun a=>by
       induction a with
       | nil=>intro b hb; simp at hb; subst hb; rfl
       | cons x a ih=>intro b hb; cases b with
         | nil=>rfl
         | cons y b=>simp [ih b (by simpa using hb)]
     exact this _ _ hl
   show w.ownsRow 0 _ 1 _ ((Pl.tabD D i).rows.zip (lay.getD i defL).us).length (((Pl.tabD D i).rows.zip (lay.getD i defL).us).flatMap (fun p:Pl.PRow=>[p.2]))
   rw [e,List.length_zip,hl,Nat.min_self]
   exact hrow
 · obtain ⟨j,hj,hjq⟩ := List.getElem_of_mem hq
   have hjz:((Pl.tabD D i).rows.zip (lay.getD i defL).us)[j]? = some q := by rw [<- hjq]; exact List.getElem?_eq_getElem hj
   rw [List.getElem?_zip_eq_some] at hjz
   have hro := hT.each j q.1 q.2 hjz.1 hjz.2
   have hrf := hok.rows q.1 (List.mem_of_getElem? hjz.1)
   refine RowS.own hro.1 (fun e=>?_)
   have := hrf.1
   rw [e,Pl.scope_len] at this
   have := hok.pos
   simp at *
   omega
 · obtain ⟨a,c,hcv'⟩ := own_slice1 hcv
   subst hcv'
   exact ⟨a,c,c1⟩
end Go.Proofs.YtojdpjpldokjmaaGreatDoor
