/- What the library does for Save, by the shelf's contracts. -/
import Derived.Test.YtojdpjpldokjmaaGreatDoorF21
import Derived.Test.YtojdpjpldokjmaaGreatDoorF36
import Derived.Test.YtojdpjpldokjmaaGreatDoorShelf
import Derived.Lib.Replace
import Derived.Lib.CountLaws
import Derived.Lib.Join
set_option maxHeartbeats 60000000
set_option maxRecDepth 100000
namespace Go.Proofs.YtojdpjpldokjmaaGreatDoor
open Go.RowKit Go.Deep
set_option linter.unusedSimpArgs false
set_option linter.unusedVariables false
theorem quote_index:∀ s:List UInt8,(Lib.index s [39]=-1->Pl.quote s=s)/\∀ i:Nat,Lib.index s [39]=i->i<s.length/\Pl.quote s=s.take i++[39,39]++Pl.quote (s.drop (i+1))
 | []=>⟨fun _=>rfl,fun i h=>by simp [Lib.index] at h⟩
 | c :: r=>by
  obtain ⟨h1,h2⟩:=quote_index r
  have hge:=Lib.index_ge r [39]
  by_cases hc:c=39
  ·subst hc
   refine ⟨fun h=>by simp [Lib.index] at h,fun i h=>?_⟩
   have:i=0:=by simp [Lib.index] at h;omega
   subst this
   simp [Pl.quote]
  ·have hc':¬ (39:UInt8)=c:=fun e=>hc e.symm
   by_cases hm:Lib.index r [39]=-1
   ·refine ⟨fun _=>by rw [Pl.quote,if_neg hc,h1 hm],fun i h=>?_⟩
    simp [Lib.index,hc',hm] at h
   ·refine ⟨fun h=>?_,fun i h=>?_⟩
    ·simp [Lib.index,hc',hm] at h
     omega
    ·simp [Lib.index,hc',hm] at h
     obtain ⟨j,rfl⟩:∃ j,i=j+1:=⟨i - 1,by omega⟩
     obtain ⟨h3,h4⟩:=h2 j (by omega)
     refine ⟨by simp;omega,?_⟩
     rw [Pl.quote,if_neg hc,h4]
     simp
theorem replace_quote:∀ (n:Nat)(s:List UInt8),s.length<=n->Lib.replaceK [39] [39,39] (Lib.count s [39]) s=Pl.quote s
 | n,s,hn=>by
  obtain ⟨h1,h2⟩:=quote_index s
  have hge:=Lib.index_ge s [39]
  by_cases hm:Lib.index s [39]=-1
  ·rw [Lib.count_miss hm,h1 hm]
   rfl
  ·obtain ⟨i,hi⟩:∃ i:Nat,Lib.index s [39]=i:=⟨(Lib.index s [39]).toNat,by omega⟩
   obtain ⟨h3,h4⟩:=h2 i hi
   rw [Lib.count_hit (by simp) hi,Nat.add_comm,Lib.replaceK_hit _ _ _ _ i hi,h4]
   match n with
   | 0=>omega
   | n+1 =>
    rw [show i+([39]:List UInt8).length=i+1 from rfl,replace_quote n (s.drop (i+1)) (by simp;omega)]
theorem replaceAll_quote (s:List UInt8):Lib.replaceAll s [39] [39,39]=Pl.quote s:=by
 unfold Lib.replaceAll Lib.replace Lib.replaceNum
 rw [if_neg (by decide),if_pos (.inl (by decide))]
 exact replace_quote _ s (Nat.le_refl _)
theorem join_sep:∀ xs:List (List UInt8),Lib.join xs [44,32]=Pl.sepJoin [44,32] xs
 | []=>rfl
 | [x]=>by rw [Lib.join_one];rfl
 | x :: y :: r=>by
  have h:=join_sep (y :: r)
  rw [Lib.join_cons] at h ⊢
  rw [Pl.sepJoin,<- h]
  simp [Lib.joinTail]
theorem grow_below {w:World}{k:Nat}{os:Array Obj}:Below w.heap.size w (Go.Sort.grow (w.drewN k) os) :=
 ⟨rfl,rfl,rfl,by show w.heap.size<=(w.heap++os).size;simp,fun i hi=>by show (w.heap++os)[i]?=w.heap[i]?;rw [Array.getElem?_append_left hi]⟩
theorem map_data (xs:List (List UInt8)):(xs.map fun x=>(⟨x.toArray⟩:ByteArray)).map (fun x=>x.data.toList)=xs:=by
 rw [List.map_map]
 exact (List.map_congr_left (fun x _=>rfl)).trans (List.map_id xs)
theorem byteCells_app (l s:List UInt8):Lib.byteCells l++Lib.strCells ⟨s.toArray⟩=Lib.byteCells (l++s):=by
 simp [Lib.byteCells,Lib.strCells]
theorem saveLib:SaveLib where
 itoa:=fun n w h0 h1 hp=>(Tryz.strconv_Itoa n h0 h1 w hp).mono (by
  rintro e w' ⟨rfl,k,os,rfl⟩
  exact ⟨rfl,grow_below⟩)
 repl:=fun s w hs hm=>by
  obtain ⟨m,hm⟩:=hm
  refine (Tryz.strings_ReplaceAll ⟨s.toArray⟩ ⟨#[39]⟩ ⟨#[39,39]⟩ m w (by show s.toArray.size<_;simp;omega) hm (by decide) ?_).mono ?_
  ·have h1:=Lib.count_le s [39]
   show s.toArray.size+Lib.count s [39]*2<=_
   simp
   omega
  ·rintro e w' ⟨rfl,hb⟩
   exact ⟨ret_str (by rw [<- replaceAll_quote]),hb⟩
 join:=fun xs v B w hv hn hl=>by
  rcases hv.2 with ⟨rfl,h0⟩|⟨g,cap,cur,rfl,hb,hg,hc,hm,hs,ht⟩
  ·obtain rfl:xs=[]:=List.length_eq_zero_iff.1 h0
   refine (Tryz.strings_Join_none none 0 ⟨#[44,32]⟩ w).mono ?_
   rintro e w' ⟨rfl,rfl⟩
   exact ⟨rfl,Below.refl _ _⟩
  ·have hz:=lB hg
   have hx:=Tryz.strings_Join g 0 cap (xs.map fun x=>(⟨x.toArray⟩:ByteArray)) ⟨#[44,32]⟩ w (fun j x hx=>?_) hz (by rw [List.length_map];omega) (by rw [List.length_map];omega) (by rw [map_data];show (Lib.join xs [44,32]).length<=_;rw [join_sep];omega)
   ·rw [List.length_map,map_data] at hx
    refine hx.mono ?_
    rintro e w' ⟨rfl,hb⟩
    exact ⟨ret_str (by rw [<- join_sep]),hb⟩
   ·rw [bC hg,Nat.zero_add]
    rw [List.getElem?_map] at hx
    obtain ⟨y,hy,rfl⟩:=Option.map_eq_some_iff.1 hx
    have h1:(xs.map fun x=>Value.string ⟨x.toArray⟩)[j]?=some (.string ⟨y.toArray⟩):=by rw [List.getElem?_map,hy];rfl
    rw [<- ht,List.getElem?_take] at h1
    split at h1
    ·simpa using h1
    ·cases h1
 write:=fun B b l s w h hl hB=>(writeM B b _ ⟨s.toArray⟩ w h (by show (Lib.byteCells l).length+s.toArray.size<=_;simp [Lib.byteCells];omega) hB).mono (by
  rintro e w' ⟨v,rfl,h1,h2⟩
  rw [byteCells_app] at h1
  exact ⟨v,rfl,h1,h2⟩)
 str:=fun B b l w h hB=>Tryz.Builder_String_any B b l w h hB
end Go.Proofs.YtojdpjpldokjmaaGreatDoor
