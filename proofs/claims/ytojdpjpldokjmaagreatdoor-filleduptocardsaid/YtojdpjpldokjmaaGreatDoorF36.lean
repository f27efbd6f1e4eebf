/- What a Builder does with a text: WriteString, over this program. -/
import Derived.Test.YtojdpjpldokjmaaGreatDoorF14
import Derived.Lib.AppendStr
import Derived.Laws.Externs
set_option maxHeartbeats 60000000
set_option maxRecDepth 100000
namespace Go.Proofs.YtojdpjpldokjmaaGreatDoor
open Go.RowKit Go.Deep
set_option linter.unusedSimpArgs false
set_option linter.unusedVariables false
theorem Tryz.sizeB:(Tryz.prog.info? 86).map (·.size)=some 2:=by kernel_rfl
theorem Tryz.liesB:liesAt Tryz.prog Tryz.prog.depth 86 (2 / Tryz.prog.cellsOf 86) 0 86 1=true:=by kernel_rfl
theorem checkUsed (b:Nat)(w:World)(hz:b<w.heap.size)(h0:w.cell? ⟨b,0,none⟩=some (.pointer (some ⟨b,0,none⟩))) :
 Calls Tryz.prog 70 #[.pointer (some ⟨b,0,none⟩)] w fun e w'=>e=.returned (.tuple #[])/\w'=w:=by
 obtain ⟨j,hj,_⟩:=Option.map_eq_some_iff.1 Tryz.sizeB
 have hq:=Lib.run_neq_ptr_same w ⟨b,0,none⟩ Tryz.underlying84 hj
 go_enter Tryz.func70,Tryz.ntmps70
 go_wp2_with fail
 go_end0
 exact ⟨rfl,rfl⟩
theorem checkFresh (b:Nat)(w:World)(hz:b<w.heap.size)(h0:w.cell? ⟨b,0,none⟩=some (.pointer none))(hsh:w.shape? b=some (86,2))(hfz:w.frozen? ⟨b,0,none⟩=false) :
 Calls Tryz.prog 70 #[.pointer (some ⟨b,0,none⟩)] w fun e w'=>e=.returned (.tuple #[])/\w'=w.setCell ⟨b,0,none⟩ (.pointer (some ⟨b,0,none⟩)):=by
 obtain ⟨j,hj,hjs⟩:=Option.map_eq_some_iff.1 Tryz.sizeB
 have hq:=fun W=>Lib.run_neq_ptr_same (P:=Tryz.prog) W ⟨b,0,none⟩ Tryz.underlying84 hj
 have h1:=Lib.run_to_unsafe w ⟨b,0,none⟩ Tryz.underlying84 Tryz.underlying233 hj (by rw [hjs];decide) hsh (Nat.zero_lt_succ 1)
 have h2:=Lib.run_from_unsafe w ⟨b,0,none⟩ Tryz.underlying233 Tryz.underlying84 hj hsh Tryz.liesB
 go_enter Tryz.func70,Tryz.ntmps70
 go_wp2_with fail
 rw [run_callFunc_extern Tryz.func116 (by kernel_rfl) (by kernel_rfl) (by kernel_rfl) (e:=Extern.AbiNoEscape.same) (by kernel_rfl)]
 rw [Lib.run_noEscape]
 simp only [Result.andThen]
 rw [Oper.upon_value]
 go_wp2_with fail
 go_end0
 exact ⟨rfl,rfl⟩
theorem checkM (B b:Nat)(bs:List Value)(w:World)(h:Lib.IsBuilder 86 5 B b bs w) :
 Calls Tryz.prog 70 #[.pointer (some ⟨b,0,none⟩)] w fun e w'=>e=.returned (.tuple #[])/\(Lib.BuilderAt 86 5 B b (.pointer (some ⟨b,0,none⟩)) bs w'/\Below B w w'):=by
 rcases h with h|h
 ·refine (checkFresh b w h.lt h.cell0 h.shape h.frozen0).mono ?_
  rintro e w' ⟨rfl,rfl⟩
  exact ⟨rfl,h.used _,(Below.refl B w).setCell (p:=⟨b,0,none⟩) h.1 _⟩
 ·refine (checkUsed b w h.lt h.cell0).mono ?_
  rintro e w' ⟨rfl,rfl⟩
  exact ⟨rfl,h,Below.refl B _⟩
theorem writeM (B b:Nat)(bs:List Value)(s:ByteArray)(w:World)(h:Lib.IsBuilder 86 5 B b bs w)(hlen:bs.length+s.size<=140737488355328)(hBw:B<=w.heap.size) :
 Calls Tryz.prog 37 #[.pointer (some ⟨b,0,none⟩),.string s] w fun e w'=>∃ v,e=.returned v/\Lib.IsBuilder 86 5 B b (bs++Lib.strCells s) w'/\Below B w w':=by
 obtain ⟨i0,hi,hz0,hz1,hz2⟩:=info_parts Tryz.infoByte
 have HC:=Z (checkM B b bs w h)
 clear h
 go_enter Tryz.func37,Tryz.ntmps37
 go_wp2_with fail
 refine (U HC).mono ?_
 rintro e w1 ⟨rfl,h1,hb1⟩
 obtain ⟨hB,v,hbk,hown,hne⟩:=h1
 have c1:w1.cell? ⟨b,1,none⟩=some v:=by rw [bC hbk];rfl
 have hlt:=lB hbk
 obtain ⟨va,vn,vc,rfl⟩:=own_slice hown
 have hz:=hb1.size
 clear HC
 go_wp2_with (at_builtin;refine Lib.wpList_append_own_string _ rfl (.tmp 12) (.tmp 13) 83 9 rfl B 5 i0 Tryz.underlying83 Tryz.underlying9 hi hz0 hz1 hz2 _ _ _ rfl hown s rfl ?c3 ?c4 ?c5 ?_)
 case c3=>unfold maxLen;omega
 case c4=>omega
 case c5=>omega
 intro v' w2 hown' hgrow _
 have hb2:w2.heap[b]?=some (.cells #[.pointer (some ⟨b,0,none⟩),.slice va vn vc] 86 (0,0)):=by
  rw [hgrow.block b hlt (fun e=>hne e.symm)]
  exact hbk
 have d1:w2.cell? ⟨b,1,none⟩=some (.slice va vn vc):=by rw [bC hb2];rfl
 have f1:w2.frozen? ⟨b,1,none⟩=false:=Lib.frozen_of_heap hb2 1
 have hlt2:=lB hb2
 obtain ⟨ao,n',cap,rfl⟩:=own_slice hown'
 have HE:Hid (Lib.IsBuilder 86 5 B b (bs++Lib.strCells s) (w2.setCell ⟨b,1,none⟩ (.slice ao n' cap))/\Below B w (w2.setCell ⟨b,1,none⟩ (.slice ao n' cap))) :=
  ⟨.inr (Lib.BuilderAt.put (T:=86) (e:=5) hB hb2 (bs':=bs++Lib.strCells s) (by simpa [Lib.strCells_length] using hown') (by decide)),(hb1.grown hgrow (by omega) (fun k hk=>(hown.lt k hk).1)).setCell (p:=⟨b,1,none⟩) hB _⟩
 clear hown hown' hgrow hbk hb1 hb2 c1
 go_wp2_with fail
 refine bodyPost_ret (v:=.tuple #[.int .i64 s.size,.nilIface]) (by simp [results,Tryz.results37,go_sem]) rfl ⟨_,rfl,HE.out⟩
end Go.Proofs.YtojdpjpldokjmaaGreatDoor
