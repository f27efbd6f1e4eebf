/- The code's Save: a list in brackets. -/
import Derived.Test.YtojdpjpldokjmaaGreatDoorF14
import Derived.Test.YtojdpjpldokjmaaGreatDoorF13
import Derived.Test.YtojdpjpldokjmaaGreatDoorF07
set_option maxHeartbeats 60000000
set_option maxRecDepth 100000
namespace Go.Proofs.YtojdpjpldokjmaaGreatDoor.Pl
theorem sepJoin_len {m:Nat}:∀ l:List (List UInt8),(∀ x ∈ l,x.length<=m)->(sepJoin [44,32] l).length<=l.length*(m+2)
 | [],_=>by simp [sepJoin]
 | [x],h=>by
  have:=h x (by simp)
  simp [sepJoin];omega
 | x :: y :: r,h=>by
  have h1:=h x (by simp)
  have h2:=sepJoin_len (y :: r) (fun z hz=>h z (by simp at hz ⊢;exact .inr hz))
  simp only [sepJoin,List.length_append,List.length_cons,List.length_nil,Nat.succ_mul] at h2 ⊢
  omega
theorem numText_len {n:Int}(h0 : -9223372036854775808<=n)(h1:n<=9223372036854775807):(numText n).length<=24:=by
 unfold numText
 split
 ·decide
 ·split
  ·have:=(dec_ok (n:=(-n).toNat) (by omega)).2.2.2
   simp only [List.length_cons];omega
  ·have:=(dec_ok (n:=n.toNat) (by omega)).2.2.2
   omega
theorem valText_len {v:V}(h:okV v):(valText v).length<=100:=by
 obtain ⟨k,n,s⟩:=v
 rcases h with ⟨h1,h2,h3⟩|⟨h1,h3,h4,h5⟩|⟨h1,h2,h3⟩|⟨h1,h2,h3⟩
 ·simp only at h1
  subst h1
  simp [valText]
 ·simp only at h1 h4 h5
  subst h1
  have:=numText_len h4 h5
  simp [valText];omega
 ·simp only at h1 h3
  subst h1
  have:=quote_len s
  simp [valText];omega
 ·simp only at h1 h2
  subst h1
  rcases h2 with rfl|rfl <;> simp [valText]
theorem colText_len {c:List UInt8 × Int}(h:c.1.length<=10):(colText c).length<=100:=by
 have:=typeText_len c.2
 simp [colText];omega
end Go.Proofs.YtojdpjpldokjmaaGreatDoor.Pl
namespace Go.Proofs.YtojdpjpldokjmaaGreatDoor
open Go.RowKit Go.Deep
set_option linter.unusedSimpArgs false
set_option linter.unusedVariables false
theorem Tryz.infoStr:(Tryz.prog.info? 9).map (fun i=>(i.zero,i.size,i.bytes))=some (some (.string ⟨#[]⟩),1,16):=by kernel_rfl
abbrev strV (x:List UInt8):Value:=.string ⟨x.toArray⟩
def BrI (w wr:World)(xs:List (List UInt8))(i:Nat)(v:Value):Prop:=Below w.heap.size w wr/\wr.ownsRow w.heap.size 9 1 v i ((xs.take i).map strV)
theorem strs_app (a b:List (List UInt8)):(a++b).map strV=a.map strV++b.map strV:=by simp
theorem br_str (x:List UInt8):(({ data:=#[40] }:ByteArray)++{ data:=x.toArray })++{ data:=#[41] }=⟨(40 :: (x++[41])).toArray⟩:=(congrArg (·++_) (cat2' [40] x)).trans (cat2' (40 :: x) [41])
theorem str_one (x:List UInt8):∀ u ∈ [strV x],u.oneCell'=true:=by intro u hu;simp at hu;subst hu;rfl
theorem brValsM (X:SaveLib)(vs:List Pl.V)(v:Value)(w:World)(hg:SaveG w)(hv:RowsW w w.heap.size 3 vC vs v)(hn:vs.length<=5)(hok:∀ x ∈ vs,Pl.okV x) :
 Calls Tryz.prog 40 #[v,.func (.func 41) #[] #[]] w fun e w'=>e=.returned (.string ⟨(Pl.brackets (vs.map Pl.valText)).toArray⟩)/\Below w.heap.size w w':=by
 obtain ⟨sa,sc,rfl⟩:=hv.slice
 obtain ⟨i0,hi,hz0,hz1,hz2⟩:=info_parts Tryz.infoStr
 have HV:=Z hv
 have HG:=Z hg
 have HX:=Z X
 have HK:=Z hok
 have HL:=Z (Pl.sepJoin_len (m:=100) (vs.map Pl.valText) (fun x hx=>by obtain ⟨y,hy,rfl⟩:=List.mem_map.1 hx;exact Pl.valText_len (hok y hy)))
 clear hv hg hok X
 go_enter Tryz.func40,Tryz.ntmps40
 go_wp2_with fail
 go_loopw [5,10] (fun s5 s10 wr=>∃ (i:Nat),i<=vs.length/\s10=.int .i64 i/\Hid (BrI w wr (vs.map Pl.valText) i s5)) (fun _ a _=>vs.length - (intOf a).toNat)
 case atStart=>exact ⟨0,Nat.zero_le _,rfl,Below.refl _ _,World.ownsRow_nil _ _ _ _⟩
 case round =>
  obtain ⟨i,hi',rfl,HI⟩:=hrel
  obtain ⟨hbI,hown⟩:=HI.out
  obtain ⟨va,vn,vc,rfl⟩:=own_slice hown
  have hbz:=hbI.size
  by_cases hlt:i<vs.length
  ·have hpi:vs[i]?=some (vs.getD i Pl.nul):=by simp [List.getD,List.getElem?_eq_getElem hlt]
   have HD:Hid (((vs.map Pl.valText).take (i+1)).map strV=((vs.map Pl.valText).take i).map strV++[strV (Pl.valText (vs.getD i Pl.nul))]):=by
    unfold Hid
    rw [List.take_add_one,List.getElem?_map,hpi,strs_app]
    rfl
   have hm:=List.mem_of_getElem? hpi
   obtain ⟨g,cap,he,hgz,e0,e1,e2⟩:=(HV.out.keep (fun k hk=>hbI.block k hk)).val hlt
   cases he
   generalize vs.getD i Pl.nul=c at *
   have HC:=Z (valueTextM HX.out c (wr.alloc (.cells #[.int .i64 c.kind,.int .i64 c.n,.string ⟨c.s.toArray⟩] 34)) ((HG.out.below hbI).below ((Below.refl _ _).alloc (Nat.le_refl _) _)) (HK.out c hm))
   have hgz:g<wr.heap.size:=by omega
   have HB:=Z hbI
   have HOw:=Z hown
   unfold vV at HC
   generalize Pl.valText c=x at *
   generalize ((vs.map Pl.valText).take i).map strV=ys at *
   clear hbI HI hm hpi hown
   go_wp2_with fail
   refine (U HC).mono ?_
   rintro e w1 ⟨rfl,hb1⟩
   have hb2:Below w.heap.size w w1:=(HB.out.alloc HB.out.size _).trans (hb1.mono (by simp;omega))
   have hown1:=own_below hb1 (HOw.out.alloc (.cells #[.int .i64 c.kind,.int .i64 c.n,.string ⟨c.s.toArray⟩] 34))
   have HB1:=Z hb2
   have hz1':w.heap.size<=w1.heap.size:=hb2.size
   clear hb1 hb2 HC HOw
   go_wp2_with (at_builtin;refine wpList_append_own _ rfl (.tmp 14) (.tmp 18) 47 rfl w.heap.size 9 i0 _ 1 16 Tryz.underlying47 hi hz0 hz1 hz2 rfl (by decide) _ _ _ rfl (hown1.alloc _) ⟨w1.heap.size,0,none⟩ 1 1 [strV x] rfl rfl ?c1 ?c2 ?c3 ?c4 ?c5 ?_)
   case c1=>exact news_at w1 [strV x] 9
   case c2=>exact str_one _
   case c3=>unfold maxLen;omega
   case c4=>omega
   case c5=>simp;omega
   intro v' w4 hown4 hg4 hnil
   have HI4:Hid (BrI w w4 (vs.map Pl.valText) (i+1) v'):=by
    refine ⟨below_grown (HB1.out.alloc HB1.out.size _) hg4 (fun k hk=>(hown1.lt k hk).1) (by simp;omega),?_⟩
    rw [HD.out]
    exact hown4
   clear hown1 hown4 hg4 hnil
   go_wp2_with fail
   go_roundw
   case rel=>exact ⟨i+1,by omega,by go_num,HI4⟩
   case measure=>simp [intOf];omega
  ·obtain rfl:i=vs.length:=by omega
   have hown':wr.ownsRow w.heap.size 9 1 (.slice va vn vc) (vs.map Pl.valText).length ((vs.map Pl.valText).map strV):=by
    have e:(vs.map Pl.valText).take vs.length=vs.map Pl.valText:=List.take_of_length_le (by simp)
    rw [e] at hown
    rw [List.length_map]
    exact hown
   have hl:=HL.out
   rw [List.length_map] at hl
   have hl2:(Pl.sepJoin [44,32] (vs.map Pl.valText)).length<=1000:=by omega
   have HC:=Z (HX.out.join _ _ _ wr hown' (by rw [List.length_map];omega) (by omega))
   have HE:Hid (Pl.brackets (vs.map Pl.valText)=40 :: (Pl.sepJoin [44,32] (vs.map Pl.valText)++[41])):=rfl
   have HB:=Z hbI
   generalize Pl.sepJoin [44,32] (vs.map Pl.valText)=x at *
   clear hbI hown hown' HI hl
   go_wp2_with fail
   refine (U HC).mono ?_
   rintro e w1 ⟨rfl,hb1⟩
   have HB1:=Z (HB.out.trans (hb1.mono hbz))
   clear hb1 HC
   go_wp2_with fail
   go_ret
   exact ⟨ret_str (by rw [HE.out];exact br_str x),HB1.out⟩
theorem brColsM (X:SaveLib)(vs:List (List UInt8 × Int))(v:Value)(w:World)(hg:SaveG w)(hv:RowsW w w.heap.size 2 tcC vs v)(hn:vs.length<=5)(hok:∀ c ∈ vs,(c.2=1\/c.2=2\/c.2=3)/\c.1.length<=10) :
 Calls Tryz.prog 38 #[v,.func (.func 39) #[] #[]] w fun e w'=>e=.returned (.string ⟨(Pl.brackets (vs.map Pl.colText)).toArray⟩)/\Below w.heap.size w w':=by
 obtain ⟨sa,sc,rfl⟩:=hv.slice
 obtain ⟨i0,hi,hz0,hz1,hz2⟩:=info_parts Tryz.infoStr
 have HV:=Z hv
 have HG:=Z hg
 have HX:=Z X
 have HK:=Z hok
 have HL:=Z (Pl.sepJoin_len (m:=100) (vs.map Pl.colText) (fun x hx=>by obtain ⟨y,hy,rfl⟩:=List.mem_map.1 hx;exact Pl.colText_len (hok y hy).2))
 clear hv hg hok X
 go_enter Tryz.func38,Tryz.ntmps38
 go_wp2_with fail
 go_loopw [5,10] (fun s5 s10 wr=>∃ (i:Nat),i<=vs.length/\s10=.int .i64 i/\Hid (BrI w wr (vs.map Pl.colText) i s5)) (fun _ a _=>vs.length - (intOf a).toNat)
 case atStart=>exact ⟨0,Nat.zero_le _,rfl,Below.refl _ _,World.ownsRow_nil _ _ _ _⟩
 case round =>
  obtain ⟨i,hi',rfl,HI⟩:=hrel
  obtain ⟨hbI,hown⟩:=HI.out
  obtain ⟨va,vn,vc,rfl⟩:=own_slice hown
  have hbz:=hbI.size
  by_cases hlt:i<vs.length
  ·have hpi:vs[i]?=some vs[i]:=List.getElem?_eq_getElem hlt
   have HD:Hid (((vs.map Pl.colText).take (i+1)).map strV=((vs.map Pl.colText).take i).map strV++[strV (Pl.colText vs[i])]):=by
    unfold Hid
    rw [List.take_add_one,List.getElem?_map,hpi,strs_app]
    rfl
   have hm:=List.mem_of_getElem? hpi
   obtain ⟨g,cap,he,hgz,e0,e1⟩:=(HV.out.keep (fun k hk=>hbI.block k hk)).tc hpi
   cases he
   generalize vs[i]=c at *
   have HC:=Z (columnTextM c (wr.alloc (.cells #[.string ⟨c.1.toArray⟩,.int .i64 c.2] 97)) ((HG.out.below hbI).below ((Below.refl _ _).alloc (Nat.le_refl _) _)) (HK.out c hm).2 (HK.out c hm).1)
   have hgz:g<wr.heap.size:=by omega
   have HB:=Z hbI
   have HOw:=Z hown
   generalize Pl.colText c=x at *
   generalize ((vs.map Pl.colText).take i).map strV=ys at *
   clear hbI HI hm hpi hown
   go_wp2_with fail
   refine (U HC).mono ?_
   rintro e w1 ⟨rfl,hb1⟩
   have hb2:Below w.heap.size w w1:=(HB.out.alloc HB.out.size _).trans (hb1.mono (by simp;omega))
   have hown1:=own_below hb1 (HOw.out.alloc (.cells #[.string ⟨c.1.toArray⟩,.int .i64 c.2] 97))
   have HB1:=Z hb2
   have hz1':w.heap.size<=w1.heap.size:=hb2.size
   clear hb1 hb2 HC HOw
   go_wp2_with (at_builtin;refine wpList_append_own _ rfl (.tmp 14) (.tmp 18) 47 rfl w.heap.size 9 i0 _ 1 16 Tryz.underlying47 hi hz0 hz1 hz2 rfl (by decide) _ _ _ rfl (hown1.alloc _) ⟨w1.heap.size,0,none⟩ 1 1 [strV x] rfl rfl ?c1 ?c2 ?c3 ?c4 ?c5 ?_)
   case c1=>exact news_at w1 [strV x] 9
   case c2=>exact str_one _
   case c3=>unfold maxLen;omega
   case c4=>omega
   case c5=>simp;omega
   intro v' w4 hown4 hg4 hnil
   have HI4:Hid (BrI w w4 (vs.map Pl.colText) (i+1) v'):=by
    refine ⟨below_grown (HB1.out.alloc HB1.out.size _) hg4 (fun k hk=>(hown1.lt k hk).1) (by simp;omega),?_⟩
    rw [HD.out]
    exact hown4
   clear hown1 hown4 hg4 hnil
   go_wp2_with fail
   go_roundw
   case rel=>exact ⟨i+1,by omega,by go_num,HI4⟩
   case measure=>simp [intOf];omega
  ·obtain rfl:i=vs.length:=by omega
   have hown':wr.ownsRow w.heap.size 9 1 (.slice va vn vc) (vs.map Pl.colText).length ((vs.map Pl.colText).map strV):=by
    have e:(vs.map Pl.colText).take vs.length=vs.map Pl.colText:=List.take_of_length_le (by simp)
    rw [e] at hown
    rw [List.length_map]
    exact hown
   have hl:=HL.out
   rw [List.length_map] at hl
   have hl2:(Pl.sepJoin [44,32] (vs.map Pl.colText)).length<=1000:=by omega
   have HC:=Z (HX.out.join _ _ _ wr hown' (by rw [List.length_map];omega) (by omega))
   have HE:Hid (Pl.brackets (vs.map Pl.colText)=40 :: (Pl.sepJoin [44,32] (vs.map Pl.colText)++[41])):=rfl
   have HB:=Z hbI
   generalize Pl.sepJoin [44,32] (vs.map Pl.colText)=x at *
   clear hbI hown hown' HI hl
   go_wp2_with fail
   refine (U HC).mono ?_
   rintro e w1 ⟨rfl,hb1⟩
   have HB1:=Z (HB.out.trans (hb1.mono hbz))
   clear hb1 HC
   go_wp2_with fail
   go_ret
   exact ⟨ret_str (by rw [HE.out];exact br_str x),HB1.out⟩
end Go.Proofs.YtojdpjpldokjmaaGreatDoor
