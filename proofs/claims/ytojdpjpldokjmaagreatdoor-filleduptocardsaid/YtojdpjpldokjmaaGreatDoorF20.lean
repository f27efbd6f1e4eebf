/- The document's columns in memory; place. -/
import Derived.Test.YtojdpjpldokjmaaGreatDoorF19
import Derived.Test.YtojdpjpldokjmaaGreatDoorF16
import Derived.BigQuiet
import Derived.WalkSmall
import Derived.Test.YtojdpjpldokjmaaGreatDoorF07
import Derived.Test.YtojdpjpldokjmaaGreatDoorF11
import Derived.Test.YtojdpjpldokjmaaGreatDoorF15
set_option maxHeartbeats 60000000
set_option maxRecDepth 100000
namespace Go.Proofs.YtojdpjpldokjmaaGreatDoor.Pl
theorem colGo_yes {src name:List UInt8}{cols:List Col}{i:Nat}{c:Col}(h:cols[i]?=some c)(hc:c.is src name=true)(f:Option Nat):colGo src name (cols.drop i) i f=match f with
 | some _=>none
 | none=>colGo src name (cols.drop (i+1)) (i+1) (some i):=by
 obtain ⟨hl,e⟩:=List.getElem?_eq_some_iff.1 h
 rw [List.drop_eq_getElem_cons hl,e]
 cases f <;> simp [colGo,hc]
theorem colGo_no {src name:List UInt8}{cols:List Col}{i:Nat}{c:Col}(h:cols[i]?=some c)(hc:c.is src name=false)(f:Option Nat):colGo src name (cols.drop i) i f=colGo src name (cols.drop (i+1)) (i+1) f:=by
 obtain ⟨hl,e⟩:=List.getElem?_eq_some_iff.1 h
 rw [List.drop_eq_getElem_cons hl,e]
 cases f <;> simp [colGo,hc]
def atI:Option Nat->Int
 | some i=>(i:Nat)
 | none=>-1
end Go.Proofs.YtojdpjpldokjmaaGreatDoor.Pl
namespace Go.Proofs.YtojdpjpldokjmaaGreatDoor
open Go.RowKit Go.Deep
set_option linter.unusedSimpArgs false
set_option linter.unusedVariables false
theorem RTree.below {w w':World}{rb:Nat}(hb:Below w.heap.size w w'):∀ {t:Pl.T}{v:Value},RTree w rb t v->RTree w' rb t v
 | .nil,_,h=>h
 | .node _ _ a l r,v,⟨n,vl,vr,hv,hn,hx,hl,hr⟩=>⟨n,vl,vr,hv,hn,bB hb (lB hx) hx,RTree.below hb hl,RTree.below hb hr⟩
def rcC (c:Pl.Col × Pl.V):List Value:=[.string ⟨c.1.src.toArray⟩,.string ⟨c.1.name.toArray⟩,.int .i64 c.1.type,.int .i64 c.2.kind,.int .i64 c.2.n,.string ⟨c.2.s.toArray⟩]
theorem name_eq (a b:List UInt8):((⟨a.toArray⟩:ByteArray).toList == (⟨b.toArray⟩:ByteArray).toList)=(a == b):=by simp
theorem placeR (cols:List (Pl.Col × Pl.V))(src name:List UInt8)(n:Nat)(vl vr v6 v7 v8 v0:Value)(v:Value)(w:World)(hx:w.heap[n]?=some (.cells #[v0,vl,vr,v6,v7,v8,.string ⟨src.toArray⟩,.string ⟨name.toArray⟩] 301))(hv:RowsW w w.heap.size 6 rcC cols v)(hl:cols.length<=1000) :
 Calls Tryz.prog 190 #[.pointer (some ⟨n,0,none⟩),v] w fun e w'=>e=.returned (.int .i64 (Pl.atI (Pl.colAt (cols.map (·.1)) src name)))/\Below w.heap.size w w':=by
 have HV:=Z hv
 obtain ⟨a,c,rfl,_⟩:=hv
 have hn:=lB hx
 have x6:=bC hx 6
 have x7:=bC hx 7
 simp at x6 x7
 go_enter Tryz.func190,Tryz.ntmps190
 go_wp2_with fail
 go_loopw [5,6] (fun s5 s6 wr=>∃ (i:Nat) (f:Option Nat),i<=cols.length/\s6=.int .i64 (i:Nat)/\s5=.int .i64 (Pl.atI f)/\(∀ k,f=some k->k<=1000)/\Hid (Pl.colGo src name ((cols.map (·.1)).drop i) i f=Pl.colAt (cols.map (·.1)) src name)/\Hid (Below w.heap.size w wr)) (fun _ b _=>cols.length - (intOf b).toNat)
 case atStart=>exact ⟨0,none,Nat.zero_le _,rfl,rfl,fun k h=>(by cases h),rfl,Below.refl _ _⟩
 case round =>
  obtain ⟨i,f,hi,rfl,rfl,hf,HC,HB⟩:=hrel
  by_cases hlt:i<cols.length
  ·have hci:cols[i]?=some cols[i]:=List.getElem?_eq_getElem hlt
   have HCi:Hid ((cols.map (·.1))[i]?=some cols[i].1):=by unfold Hid;rw [List.getElem?_map,hci];rfl
   obtain ⟨_,_,e,h2⟩:=HV.out.below HB.out
   cases e
   obtain ⟨g,rfl,hg,h3⟩:=h2 (by rintro rfl;simp at hlt)
   have c0:=h3 i _ hci 0 (.string ⟨cols[i].1.src.toArray⟩) rfl
   have c1:=h3 i _ hci 1 (.string ⟨cols[i].1.name.toArray⟩) rfl
   generalize cols[i].1=col at *
   have y6:=(HB.out.cell (p:=⟨n,6,none⟩) hn).trans x6
   have y7:=(HB.out.cell (p:=⟨n,7,none⟩) hn).trans x7
   have hz:=HB.out.size
   have hnw:=Nat.lt_of_lt_of_le hn hz
   have HIs:Hid (Pl.Col.is src name col=(col.name == name && (src == [] || col.src == src))):=rfl
   have hnm:=name_eq col.name name
   have hsr:=name_eq col.src src
   have hse:(⟨src.toArray⟩:ByteArray).toList.isEmpty=(src == []):=by cases src <;> simp
   generalize (⟨col.name.toArray⟩:ByteArray)=s1 at *
   generalize (⟨col.src.toArray⟩:ByteArray)=s2 at *
   generalize (⟨name.toArray⟩:ByteArray)=s3 at *
   generalize (⟨src.toArray⟩:ByteArray)=s4 at *
   simp at c0 c1
   clear h3 h2 hci x6 x7
   have HNo:Hid (Pl.Col.is src name col=false->Pl.colGo src name ((cols.map (·.1)).drop (i+1)) (i+1) f=Pl.colAt (cols.map (·.1)) src name):=fun h=>by rw [<- HC.out,Pl.colGo_no HCi.out h]
   have HYs:Hid (Pl.Col.is src name col=true->(∀ k,f=some k->Pl.colAt (cols.map (·.1)) src name=none)/\(f=none->Pl.colGo src name ((cols.map (·.1)).drop (i+1)) (i+1) (some i)=Pl.colAt (cols.map (·.1)) src name)):=fun h=>⟨fun k hk=>by rw [<- HC.out,Pl.colGo_yes HCi.out h,hk],fun hk=>by rw [<- HC.out,Pl.colGo_yes HCi.out h,hk]⟩
   cases hb1:(col.name == name) with
   | false =>
    rw [hb1] at hnm
    have HF:=Z (HNo.out (by rw [HIs.out,hb1];rfl))
    clear HNo HYs hb1 HIs hsr hse
    go_upto_region 5 with fail
    go_quiet (fail)
    all_goals
     go_wp2_with fail
     exact ⟨⟨i+1,f,by omega,by go_num,rfl,hf,HF.out,below_drewN HB.out _⟩,by simp [intOf];omega⟩
   | true =>
    rw [hb1] at hnm
    have HYes:Hid ((src == [] || col.src == src)=true->Pl.Col.is src name col=true):=fun h=>by rw [HIs.out,hb1,h];rfl
    have HNot:Hid ((src == [] || col.src == src)=false->Pl.Col.is src name col=false):=fun h=>by rw [HIs.out,hb1,h];rfl
    cases hb2:(src == []) with
    | true =>
     rw [hb2] at hse
     have HY:=Z (HYs.out (HYes.out (by rw [hb2];rfl)))
     clear HNo HYs hb1 HIs hsr HYes HNot hb2
     go_upto_region 5 with fail
     go_quiet (fail)
     cases f with
     | some k =>
      have hk:=hf k rfl
      have hk0:(0:Int)<=((k:Nat):Int):=by omega
      have HE:=Z (HY.out.1 k rfl)
      simp only [Pl.atI]
      go_wp2_with fail
      go_ret
      exact ⟨by rw [HE.out];rfl,below_drewN HB.out _⟩
     | none =>
      have HE:=Z (HY.out.2 rfl)
      simp only [Pl.atI]
      go_wp2_with fail
      exact ⟨⟨i+1,some i,by omega,by go_num,rfl,fun k h=>(by cases h;omega),HE.out,below_drewN HB.out _⟩,by simp [intOf];omega⟩
    | false =>
     rw [hb2] at hse
     cases hb3:(col.src == src) with
     | true =>
      rw [hb3] at hsr
      have HY:=Z (HYs.out (HYes.out (by rw [hb2,hb3];rfl)))
      clear HNo HYs hb1 HIs HYes HNot hb2 hb3
      go_upto_region 5 with fail
      go_quiet (fail)
      cases f with
      | some k =>
       have hk:=hf k rfl
       have hk0:(0:Int)<=((k:Nat):Int):=by omega
       have HE:=Z (HY.out.1 k rfl)
       simp only [Pl.atI]
       go_wp2_with fail
       go_ret
       exact ⟨by rw [HE.out];rfl,below_drewN HB.out _⟩
      | none =>
       have HE:=Z (HY.out.2 rfl)
       simp only [Pl.atI]
       go_wp2_with fail
       exact ⟨⟨i+1,some i,by omega,by go_num,rfl,fun k h=>(by cases h;omega),HE.out,below_drewN HB.out _⟩,by simp [intOf];omega⟩
     | false =>
      rw [hb3] at hsr
      have HF:=Z (HNo.out (HNot.out (by rw [hb2,hb3];rfl)))
      clear HNo HYs hb1 HIs HYes HNot hb2 hb3
      go_upto_region 5 with fail
      go_quiet (fail)
      go_wp2_with fail
      exact ⟨⟨i+1,f,by omega,by go_num,rfl,hf,HF.out,below_drewN HB.out _⟩,by simp [intOf];omega⟩
  ·obtain rfl:i=cols.length:=by omega
   have HE:Hid (f=Pl.colAt (cols.map (·.1)) src name):=by
    have h:=HC.out
    rw [List.drop_of_length_le (by simp)] at h
    rw [<- h]
    cases f <;> rfl
   go_wp2_with fail
   go_ret
   exact ⟨by rw [<- HE.out];rfl,HB.out⟩
end Go.Proofs.YtojdpjpldokjmaaGreatDoor
namespace Go.Proofs.YtojdpjpldokjmaaGreatDoor.Pl
theorem colGo_lt:∀ {cols:List Col}{src name:List UInt8}{i:Nat}{f:Option Nat}{k:Nat},colGo src name cols i f=some k->(∃ c,f=some c/\k=c)\/(i<=k/\k<i+cols.length)
 | [],src,name,i,f,k,h=>by
  simp [colGo] at h
  exact .inl ⟨k,h,rfl⟩
 | c :: cs,src,name,i,f,k,h=>by
  unfold colGo at h
  split at h
  ·cases f with
   | some x=>simp at h
   | none =>
    simp only at h
    rcases colGo_lt h with ⟨x,hx,rfl⟩|⟨h1,h2⟩
    ·cases hx
     exact .inr ⟨Nat.le_refl _,by simp⟩
    ·exact .inr ⟨by omega,by simp;omega⟩
  ·rcases colGo_lt h with ⟨x,hx,hk⟩|⟨h1,h2⟩
   ·exact .inl ⟨x,hx,hk⟩
   ·exact .inr ⟨by omega,by simp;omega⟩
theorem colAt_lt {cols:List Col}{src name:List UInt8}{k:Nat}(h:colAt cols src name=some k):k<cols.length:=by
 rcases colGo_lt h with ⟨x,hx,_⟩|⟨_,h2⟩
 ·cases hx
 ·simpa using h2
theorem tc_rng {cols:List Col}(hc:∀ c ∈ cols,0<=c.type/\c.type<=3):∀ {t:T}{k:Int},WfK t->tc cols t=.ok k->0<=k/\k<=3
 | .nil,k,_,h=>by simp [tc] at h;omega
 | .node _ _ p l r,k,hw,h=>by
  unfold tc at h
  split at h
  ·rename_i h0
   simp at h
   have:=hw.1 h0
   omega
  ·split at h
   ·cases ha:colAt cols p.src p.name with
    | none=>rw [ha] at h;simp at h
    | some i =>
     rw [ha] at h
     simp at h
     have hi:=colAt_lt ha
     unfold typeAt at h
     rw [List.getElem?_eq_getElem hi] at h
     simp at h
     have:=hc _ (List.getElem_mem hi)
     omega
   ·have hg:∀ {a b:Int} {z:Int},fit p.op a b=.ok z->0<=z/\z<=3:=fun {a b z} h=>by
     unfold fit at h
     split at h
     ·simp at h
      rw [<- h]
      unfold gives
      split <;> omega
     ·cases h
    cases hl:tc cols l with
    | error e=>rw [hl] at h;simp at h
    | ok a =>
     rw [hl] at h
     simp only at h
     split at h
     ·exact hg h
     ·cases hr:tc cols r with
      | error e=>rw [hr] at h;simp at h
      | ok b=>rw [hr] at h;exact hg h
end Go.Proofs.YtojdpjpldokjmaaGreatDoor.Pl
namespace Go.Proofs.YtojdpjpldokjmaaGreatDoor
open Go.RowKit Go.Deep
set_option linter.unusedSimpArgs false
set_option linter.unusedVariables false
def TyO (o:Pl.Out Int)(e:Ending):Prop:=match o with
 | .ok k=>e=.returned (.tuple #[.int .i64 k,.int .i64 0])
 | .error er=>∃ k:Int,e=.returned (.tuple #[.int .i64 k,.int .i64 (er:Nat)])
theorem two_is (a b m:Int):Pl.twoE a b m=0\/Pl.twoE a b m=3:=by
 unfold Pl.twoE
 split
 ·exact .inr rfl
 ·exact .inl rfl
theorem ty_two {op:Nat}{a b:Int}(ha:0<=a/\a<=3)(hb:0<=b/\b<=3)(h6:6<=op):TyO (Pl.fit op a b) (.returned (.tuple #[.int .i64 (Pl.gives op),.int .i64 (Pl.twoE a b (Pl.takes op))])):=by
 rw [Pl.two_fit ha hb h6]
 rcases two_is a b (Pl.takes op) with h|h
 ·rw [h,if_pos rfl];rfl
 ·rw [h,if_neg (by decide)];exact ⟨_,rfl⟩
theorem ty_one {op:Nat}{a:Int}(ha:0<=a/\a<=3):TyO (Pl.fit op a a) (.returned (.tuple #[.int .i64 (Pl.gives op),.int .i64 (Pl.twoE a 0 (Pl.takes op))])):=by
 rw [Pl.one_fit ha]
 rcases two_is a 0 (Pl.takes op) with h|h
 ·rw [h,if_pos rfl];rfl
 ·rw [h,if_neg (by decide)];exact ⟨_,rfl⟩
abbrev nodeO (op:Nat)(vl vr:Value)(kd m:Int)(s src name:List UInt8):Obj:=.cells #[.string (signB op),vl,vr,.int .i64 kd,.int .i64 m,.string ⟨s.toArray⟩,.string ⟨src.toArray⟩,.string ⟨name.toArray⟩] 301
def TyC (cols:List (Pl.Col × Pl.V))(v:Value)(t:Pl.T)(tv:Value)(w:World):Prop:=∀ W,Below w.heap.size w W->Calls Tryz.prog 133 #[tv,v] W fun e w'=>TyO (Pl.tc (cols.map (·.1)) t) e/\Below W.heap.size W w'
theorem typeTwo (cols:List (Pl.Col × Pl.V))(hcs:∀ c ∈ cols.map (·.1),0<=c.type/\c.type<=3)(op:Nat)(h6:6<=op)(h18:op<=18)(x y:Pl.T)(hx:Pl.WfK x)(hy:Pl.WfK y)(n:Nat)(al ar:Addr)(kd m:Int)(s src name:List UInt8)(v:Value)(w:World)(hn:w.heap[n]?=some (nodeO op (.pointer (some al)) (.pointer (some ar)) kd m s src name))(hl:TyC cols v x (.pointer (some al)) w)(hr:TyC cols v y (.pointer (some ar)) w)(hv:∃ a l c,v=.slice a l c)(o:Pl.Out Int)(ho:o=match Pl.tc (cols.map (·.1)) x with
 | .error e=>.error e
 | .ok a=>match Pl.tc (cols.map (·.1)) y with
  | .error e=>.error e
  | .ok b=>Pl.fit op a b) :
 Calls Tryz.prog 133 #[.pointer (some ⟨n,0,none⟩),v] w fun e w'=>TyO o e/\Below w.heap.size w w':=by
 obtain ⟨va,vn,vc,rfl⟩:=hv
 have hnl:=lB hn
 have HL:=Z (hl w (Below.refl _ _))
 have HR:=Z hr
 have HN:=Z hn
 have HO:=Z ho
 have hx0:=bC hn 0
 have hx1:=bC hn 1
 simp at hx0 hx1
 have HTl:=Z (fun k (h:Pl.tc (cols.map (·.1)) x=.ok k)=>Pl.tc_rng hcs hx h)
 have HTr:=Z (fun k (h:Pl.tc (cols.map (·.1)) y=.ok k)=>Pl.tc_rng hcs hy h)
 have HEr:Hid (∀ e,Pl.tc (cols.map (·.1)) x=.error e->e=2\/e=3):=fun e h=>Pl.tc_err h
 have HEs:Hid (∀ e,Pl.tc (cols.map (·.1)) y=.error e->e=2\/e=3):=fun e h=>Pl.tc_err h
 clear hl hr hn ho hx hy hcs
 have hop6:=h6
 have htk:Pl.takes op=0\/Pl.takes op=1\/Pl.takes op=3:=by
  unfold Pl.takes
  split
  ·exact .inr (.inr rfl)
  ·split
   ·exact .inl rfl
   ·exact .inr (.inl rfl)
 obtain rfl|rfl|rfl|rfl|rfl|rfl|rfl|rfl|rfl|rfl|rfl|rfl|rfl:op=6\/op=7\/op=8\/op=9\/op=10\/op=11\/op=12\/op=13\/op=14\/op=15\/op=16\/op=17\/op=18:=by omega
 all_goals
  simp [signB,signs] at hx0
  go_enter Tryz.func133,Tryz.ntmps133
  go_wp2_with fail
  refine (U HL).mono ?_
  rintro e w1 ⟨h1,hb1⟩
  cases hc1:Pl.tc (cols.map (·.1)) x with
  | error er =>
   rw [hc1] at h1 HO
   obtain ⟨k,rfl⟩:=h1
   have her:(((er:Nat):Int) != 0)=true:=by have:=HEr.out er hc1;simp;omega
   have HE:Hid (TyO o (.returned (.tuple #[.int .i64 0,.int .i64 (er:Nat)]))):=by unfold Hid;rw [HO.out];exact ⟨_,rfl⟩
   have HB1:=Z hb1
   clear hc1 hb1 HL HR HO
   go_wp2_with fail
   exact bodyPost_ret (v:=.tuple #[.int .i64 0,.int .i64 (er:Nat)]) (by simp [results,Tryz.results133,go_sem]) rfl ⟨HE.out,HB1.out⟩
  | ok a =>
   rw [hc1] at h1 HO
   have ha:=HTl.out a hc1
   have HA:=Z ha
   cases h1
   have hn1:=bB hb1 hnl HN.out
   have hnz:=lB hn1
   have y0:=bC hn1 0
   have y2:=bC hn1 2
   simp at y0 y2
   simp [signB,signs] at y0
   have HC:=Z ((U HR) w1 hb1)
   have HB1:=Z hb1
   have HN1:=Z hn1
   clear hc1 hb1 HL HR ha hx0 hx1 hn1
   go_wp2_with fail
   refine (U HC).mono ?_
   rintro e w2 ⟨h2,hb2⟩
   have HB2:=Z (HB1.out.trans (hb2.mono HB1.out.size))
   cases hc2:Pl.tc (cols.map (·.1)) y with
   | error er =>
    rw [hc2] at h2 HO
    obtain ⟨k,rfl⟩:=h2
    have her:(((er:Nat):Int) != 0)=true:=by have:=HEs.out er hc2;simp;omega
    have HE:Hid (TyO o (.returned (.tuple #[.int .i64 0,.int .i64 (er:Nat)]))):=by unfold Hid;rw [HO.out];exact ⟨_,rfl⟩
    clear hc2 hb2 HC HO
    go_wp2_with fail
    exact bodyPost_ret (v:=.tuple #[.int .i64 0,.int .i64 (er:Nat)]) (by simp [results,Tryz.results133,go_sem]) rfl ⟨HE.out,HB2.out⟩
   | ok b =>
    rw [hc2] at h2 HO
    have hb:=HTr.out b hc2
    cases h2
    have hty:=ty_two HA.out hb hop6
    have hoe:o=Pl.fit _ a b:=HO.out
    rw [<- hoe] at hty
    have HC2:=Z (twoR a b _ w2 HA.out hb htk)
    simp [Pl.gives,Pl.takes] at hty HC2
    have HE:=Z hty
    have hn2:=bB hb2 hnz HN1.out
    have hnz2:=lB hn2
    have z0:=bC hn2 0
    simp at z0
    simp [signB,signs] at z0
    clear hc2 hb2 HC HO hb hn2 y0 y2 hty htk hop6 hoe
    go_wp2_with fail
    refine (U HC2).mono ?_
    rintro e w3 ⟨rfl,rfl⟩
    clear HC2
    go_wp2_with fail
    refine bodyPost_ret ?_ rfl ⟨HE.out,HB2.out⟩
    simp [results,Tryz.results133,go_sem]
theorem typeOne (cols:List (Pl.Col × Pl.V))(hcs:∀ c ∈ cols.map (·.1),0<=c.type/\c.type<=3)(op:Nat)(h2:2<=op)(h5:op<=5)(x:Pl.T)(hx:Pl.WfK x)(n:Nat)(al:Addr)(kd m:Int)(s src name:List UInt8)(v:Value)(w:World)(hn:w.heap[n]?=some (nodeO op (.pointer (some al)) (.pointer none) kd m s src name))(hl:TyC cols v x (.pointer (some al)) w)(hv:∃ a l c,v=.slice a l c)(o:Pl.Out Int)(ho:o=match Pl.tc (cols.map (·.1)) x with
 | .error e=>.error e
 | .ok a=>Pl.fit op a a) :
 Calls Tryz.prog 133 #[.pointer (some ⟨n,0,none⟩),v] w fun e w'=>TyO o e/\Below w.heap.size w w':=by
 obtain ⟨va,vn,vc,rfl⟩:=hv
 have hnl:=lB hn
 have HL:=Z (hl w (Below.refl _ _))
 have HN:=Z hn
 have HO:=Z ho
 have hx0:=bC hn 0
 have hx1:=bC hn 1
 simp at hx0 hx1
 have HTl:=Z (fun k (h:Pl.tc (cols.map (·.1)) x=.ok k)=>Pl.tc_rng hcs hx h)
 have HEr:Hid (∀ e,Pl.tc (cols.map (·.1)) x=.error e->e=2\/e=3):=fun e h=>Pl.tc_err h
 have HTy:Hid (∀ a,0<=a/\a<=3->o=Pl.fit op a a->TyO o (.returned (.tuple #[.int .i64 (Pl.gives op),.int .i64 (Pl.twoE a 0 (Pl.takes op))]))):=fun a ha h=>by rw [h];exact ty_one ha
 have HTw:Hid (∀ a W,0<=a/\a<=3->Calls Tryz.prog 191 #[.int .i64 a,.int .i64 0,.int .i64 (Pl.takes op)] W fun e w'=>e=.returned (.int .i64 (Pl.twoE a 0 (Pl.takes op)))/\w'=W):=fun a W ha=>by
  refine twoR a 0 _ W ha (by omega) ?_
  unfold Pl.takes
  split
  ·exact .inr (.inr rfl)
  ·split
   ·exact .inl rfl
   ·exact .inr (.inl rfl)
 clear hl hn ho hx hcs
 obtain rfl|rfl|rfl|rfl:op=2\/op=3\/op=4\/op=5:=by omega
 all_goals
  simp [signB,signs] at hx0
  go_enter Tryz.func133,Tryz.ntmps133
  go_wp2_with fail
  refine (U HL).mono ?_
  rintro e w1 ⟨h1,hb1⟩
  have HB1:=Z hb1
  cases hc1:Pl.tc (cols.map (·.1)) x with
  | error er =>
   rw [hc1] at h1 HO
   obtain ⟨k,rfl⟩:=h1
   have her:(((er:Nat):Int) != 0)=true:=by have:=HEr.out er hc1;simp;omega
   have HE:Hid (TyO o (.returned (.tuple #[.int .i64 0,.int .i64 (er:Nat)]))):=by unfold Hid;rw [HO.out];exact ⟨_,rfl⟩
   clear hc1 hb1 HL HO
   go_wp2_with fail
   exact bodyPost_ret (v:=.tuple #[.int .i64 0,.int .i64 (er:Nat)]) (by simp [results,Tryz.results133,go_sem]) rfl ⟨HE.out,HB1.out⟩
  | ok a =>
   rw [hc1] at h1 HO
   have ha:=HTl.out a hc1
   cases h1
   have hn1:=bB hb1 hnl HN.out
   have hnz:=lB hn1
   have y0:=bC hn1 0
   have y2:=bC hn1 2
   simp at y0 y2
   simp [signB,signs] at y0
   have hty:=HTy.out a ha HO.out
   have HC2:=Z (HTw.out a w1 ha)
   simp [Pl.gives,Pl.takes] at hty HC2
   have HE:=Z hty
   clear hc1 hb1 HL HO ha hx0 hx1 hn1 hty HTy HTw
   go_wp2_with fail
   first
    | (refine (U HC2).mono ?_
       rintro e w3 ⟨rfl,rfl⟩
       clear HC2
       go_wp2_with fail
       refine bodyPost_ret ?_ rfl ⟨HE.out,HB1.out⟩
       simp [results,Tryz.results133,go_sem])
    | (refine bodyPost_ret (v:=.tuple #[.int .i64 3,.int .i64 0]) (by simp [results,Tryz.results133,go_sem]) rfl ⟨?_,HB1.out⟩
       have h:=HE.out
       rw [show Pl.twoE a 0 0=0 by simp [Pl.twoE]] at h
       exact h)
theorem typeLit (kd m:Int)(s src name:List UInt8)(vl vr v:Value)(n:Nat)(w:World)(hn:w.heap[n]?=some (nodeO 0 vl vr kd m s src name))(hv:∃ a l c,v=.slice a l c) :
 Calls Tryz.prog 133 #[.pointer (some ⟨n,0,none⟩),v] w fun e w'=>TyO (.ok kd) e/\Below w.heap.size w w':=by
 obtain ⟨va,vn,vc,rfl⟩:=hv
 have hnl:=lB hn
 have hx0:=bC hn 0
 have hx3:=bC hn 3
 simp at hx0 hx3
 simp [signB,signs] at hx0
 have HB:=Z (Below.refl w.heap.size w)
 go_enter Tryz.func133,Tryz.ntmps133
 go_wp2_with fail
 exact bodyPost_ret (v:=.tuple #[.int .i64 kd,.int .i64 0]) (by simp [results,Tryz.results133,go_sem]) rfl ⟨rfl,HB.out⟩
theorem typeName (cols:List (Pl.Col × Pl.V))(hcl:cols.length<=1000)(kd m:Int)(s src name:List UInt8)(vl vr v:Value)(n:Nat)(w:World)(hn:w.heap[n]?=some (nodeO 1 vl vr kd m s src name))(hv:RowsW w w.heap.size 6 rcC cols v) :
 Calls Tryz.prog 133 #[.pointer (some ⟨n,0,none⟩),v] w fun e w'=>TyO (match Pl.colAt (cols.map (·.1)) src name with
  | some i=>.ok (Pl.typeAt (cols.map (·.1)) i)
  | none=>.error 2) e/\Below w.heap.size w w':=by
 have HV:=Z hv
 have HP:=Z (placeR cols src name n vl vr _ _ _ _ v w hn hv hcl)
 obtain ⟨va,vc,rfl,_⟩:=hv
 have hnl:=lB hn
 have hx0:=bC hn 0
 simp at hx0
 simp [signB,signs] at hx0
 cases hc:Pl.colAt (cols.map (·.1)) src name with
 | none =>
  rw [hc] at HP
  simp only [Pl.atI] at HP
  clear hc
  go_enter Tryz.func133,Tryz.ntmps133
  go_wp2_with fail
  refine (U HP).mono ?_
  rintro e w1 ⟨rfl,hb1⟩
  have HB1:=Z hb1
  clear hb1 HP
  go_wp2_with fail
  exact bodyPost_ret (v:=.tuple #[.int .i64 0,.int .i64 2]) (by simp [results,Tryz.results133,go_sem]) rfl ⟨⟨0,rfl⟩,HB1.out⟩
 | some i =>
  rw [hc] at HP
  simp only [Pl.atI] at HP
  have hil:i<cols.length:=by have:=Pl.colAt_lt hc;simpa using this
  have hi1:i<=1000:=by omega
  have hii:((i:Nat):Int)<((cols.length:Nat):Int):=by omega
  have HTy:Hid (Pl.typeAt (cols.map (·.1)) i=cols[i].1.type):=by
   unfold Hid Pl.typeAt
   simp [hil]
  clear hc
  go_enter Tryz.func133,Tryz.ntmps133
  go_wp2_with fail
  refine (U HP).mono ?_
  rintro e w1 ⟨rfl,hb1⟩
  have HB1:=Z hb1
  obtain ⟨_,_,e,h2⟩:=HV.out.below hb1
  cases e
  obtain ⟨g,rfl,hg,h3⟩:=h2 (by rintro rfl;simp at hil)
  have c2:=h3 i _ (List.getElem?_eq_getElem hil) 2 (.int .i64 cols[i].1.type) rfl
  generalize cols[i].1.type=ty at *
  clear hb1 HP h2 h3 HV
  go_wp2_with fail
  exact bodyPost_ret (v:=.tuple #[.int .i64 ty,.int .i64 0]) (by simp [results,Tryz.results133,go_sem]) rfl ⟨by rw [HTy.out];rfl,HB1.out⟩
theorem RTree.node_ {w:World}{rb:Nat}{a b:Nat}{p:Pl.Pay}{l r:Pl.T}{v:Value}(h:RTree w rb (.node a b p l r) v):∃ (n:Nat)(vl vr:Value),v=.pointer (some ⟨n,0,none⟩)/\w.heap[n]?=some (nodeO p.op vl vr p.kind p.n p.s p.src p.name)/\RTree w rb l vl/\RTree w rb r vr:=by
 obtain ⟨n,vl,vr,hv,_,hx,hl,hr⟩:=h
 exact ⟨n,vl,vr,hv,hx,hl,hr⟩
theorem RTree.ptr {w:World}{rb:Nat}{t:Pl.T}{v:Value}(h:RTree w rb t v)(hw:Pl.Wf t):∃ a,v=.pointer (some a):=by
 cases t with
 | nil=>exact absurd hw (by simp [Pl.Wf])
 | node a b p l r =>
  obtain ⟨n,_,_,rfl,_⟩:=h.node_
  exact ⟨_,rfl⟩
theorem typeR (cols:List (Pl.Col × Pl.V))(hcl:cols.length<=1000)(hcs:∀ c ∈ cols.map (·.1),0<=c.type/\c.type<=3):∀ (t:Pl.T)(v tv:Value)(w:World)(rb:Nat),Pl.Wf t->Pl.WfK t->Pl.Shp t->RTree w rb t tv->RowsW w w.heap.size 6 rcC cols v->TyC cols v t tv w
 | .nil,v,tv,w,rb,hw,_,_,_,_=>absurd hw (by simp [Pl.Wf])
 | .node ta tb p l r,v,tv,w,rb,hw,hk,hs,ht,hv=>by
  intro W hb
  replace ht:=ht.below hb
  replace hv:=hv.below hb
  obtain ⟨h18,hor,hw6,hw2⟩:=hw
  obtain ⟨_,hkl,hkr⟩:=hk
  obtain ⟨hs5,hsl,hsr⟩:=hs
  obtain ⟨n,vl,vr,rfl,hn,hl,hr⟩:=ht.node_
  have hsl':∃ a l c,v=.slice a l c:=by obtain ⟨a,c,rfl⟩:=hv.slice;exact ⟨_,_,_,rfl⟩
  by_cases h0:p.op=0
  ·rw [h0] at hn
   refine (typeLit _ _ _ _ _ _ _ v n W hn hsl').mono fun e w' h=>?_
   unfold Pl.tc
   rw [if_pos h0]
   exact h
  ·by_cases h1:p.op=1
   ·rw [h1] at hn
    refine (typeName cols hcl _ _ _ _ _ _ _ v n W hn hv).mono fun e w' h=>?_
    unfold Pl.tc
    rw [if_neg h0,if_pos h1]
    exact h
   ·have hwl:=hw2 (by omega)
    obtain ⟨al,rfl⟩:=hl.ptr hwl
    have hL:=typeR cols hcl hcs l v _ W rb hwl hkl hsl hl hv
    by_cases h5:p.op<=5
    ·obtain rfl:=hs5 h5
     have hr':vr=.pointer none:=hr
     subst hr'
     refine typeOne cols hcs p.op (by omega) h5 l hkl n al _ _ _ _ _ v W hn hL hsl' _ ?_
     conv=>lhs;unfold Pl.tc
     rw [if_neg h0,if_neg h1]
     cases Pl.tc (cols.map (·.1)) l with
     | error e=>rfl
     | ok a=>exact if_pos h5
    ·have hwr:=hw6 (by omega)
     obtain ⟨ar,rfl⟩:=hr.ptr hwr
     have hR:=typeR cols hcl hcs r v _ W rb hwr hkr hsr hr hv
     refine typeTwo cols hcs p.op (by omega) h18 l r hkl hkr n al ar _ _ _ _ _ v W hn hL hR hsl' _ ?_
     conv=>lhs;unfold Pl.tc
     rw [if_neg h0,if_neg h1]
     cases Pl.tc (cols.map (·.1)) l with
     | error e=>rfl
     | ok a=>exact if_neg h5
def Pl.tyE (o:Pl.Out Int)(want:Int):Nat:=match o with
 | .error e=>e
 | .ok a=>if Pl.alike a want=true then 0 else 3
theorem Pl.tyE_as (cols:List Pl.Col)(t:Pl.T)(want:Int):Pl.tyE (Pl.tc cols t) want=(Pl.tcAs cols t want).getD 0:=by
 unfold Pl.tcAs Pl.tyE
 cases Pl.tc cols t with
 | error e=>rfl
 | ok a=>cases h:Pl.alike a want <;> simp [h]
theorem typedR (cols:List (Pl.Col × Pl.V))(want:Int)(hw0:0<=want/\want<=3)(o:Pl.Out Int)(ho:∀ a,o=.ok a->0<=a/\a<=3)(he:∀ e,o=.error e->e=2\/e=3)(v tv:Value)(w:World)(hC:Calls Tryz.prog 133 #[tv,v] w fun e w'=>TyO o e/\Below w.heap.size w w')(hv:∃ a l c,v=.slice a l c)(hp:∃ a,tv=.pointer a) :
 Calls Tryz.prog 79 #[tv,v,.int .i64 want] w fun e w'=>e=.returned (.int .i64 (Pl.tyE o want:Nat))/\Below w.heap.size w w':=by
 obtain ⟨va,vn,vc,rfl⟩:=hv
 obtain ⟨pa,rfl⟩:=hp
 have HC:=Z hC
 have HO:=Z ho
 have HE:=Z he
 generalize hte:Pl.tyE o want=te
 have HTe:=Z hte
 clear hC ho he hte
 go_enter Tryz.func79,Tryz.ntmps79
 go_wp2_with fail
 refine (U HC).mono ?_
 rintro e w1 ⟨h1,hb1⟩
 have HB1:=Z hb1
 clear hb1 HC
 cases o with
 | error er =>
  obtain ⟨k,rfl⟩:=h1
  have her:(((er:Nat):Int) == 0)=false:=by have:=HE.out er rfl;simp;omega
  have her2:(er:Int)≠0:=by have:=HE.out er rfl;omega
  have her3:er≠0:=by have:=HE.out er rfl;omega
  have hq:er=te:=HTe.out
  subst hq
  clear HTe
  go_wp2_with fail
  exact bodyPost_ret (v:=.int .i64 (er:Nat)) (by simp [results,Tryz.results79,go_sem]) rfl ⟨rfl,HB1.out⟩
 | ok a =>
  cases h1
  have ha:=HO.out a rfl
  clear HO HE
  have HR:Hid (∀ b:Bool,b=(decide (0<want) && (decide (0<a) && (a != want)))->te=if b=true then 3 else 0):=fun b hb=>by
   rw [<- HTe.out]
   unfold Pl.tyE Pl.alike
   subst hb
   by_cases h1:a=want
   ·simp [h1]
   ·by_cases h2:a=0
    ·simp [h2]
    ·by_cases h3:want=0
     ·simp [h3]
     ·have:0<want:=by omega
      have:0<a:=by omega
      simp_all
  clear HTe
  by_cases hwp:0<want
  ·by_cases hap:0<a
   ·by_cases haw:a=want
    ·subst haw
     have h0:te=0:=by rw [HR.out false (by simp)];rfl
     subst h0
     clear HR
     go_wp2_with fail
     exact bodyPost_ret (v:=.int .i64 0) (by simp [results,Tryz.results79,go_sem]) rfl ⟨rfl,HB1.out⟩
    ·have h0:te=3:=by rw [HR.out true (by simp [hwp,hap,haw])];rfl
     subst h0
     have haw':(a != want)=true:=by simp [haw]
     clear HR
     go_wp2_with fail
     exact bodyPost_ret (v:=.int .i64 3) (by simp [results,Tryz.results79,go_sem]) rfl ⟨rfl,HB1.out⟩
   ·have h0:te=0:=by rw [HR.out false (by simp [hap])];rfl
    subst h0
    clear HR
    go_wp2_with fail
    exact bodyPost_ret (v:=.int .i64 0) (by simp [results,Tryz.results79,go_sem]) rfl ⟨rfl,HB1.out⟩
  ·have h0:te=0:=by rw [HR.out false (by simp [hwp])];rfl
   subst h0
   clear HR
   go_wp2_with fail
   exact bodyPost_ret (v:=.int .i64 0) (by simp [results,Tryz.results79,go_sem]) rfl ⟨rfl,HB1.out⟩
def VaC (o:Pl.Out Pl.V)(v tv:Value)(w:World):Prop:=∀ W,Below w.heap.size w W->Calls Tryz.prog 134 #[tv,v] W fun e w'=>e=.returned (outE o)/\Below W.heap.size W w'
theorem valueLit (kd m:Int)(s src name:List UInt8)(vl vr v:Value)(n:Nat)(w:World)(hn:w.heap[n]?=some (nodeO 0 vl vr kd m s src name))(hv:∃ a l c,v=.slice a l c) :
 Calls Tryz.prog 134 #[.pointer (some ⟨n,0,none⟩),v] w fun e w'=>e=.returned (outE (.ok ⟨kd,m,s⟩))/\Below w.heap.size w w':=by
 obtain ⟨va,vn,vc,rfl⟩:=hv
 have hnl:=lB hn
 have hx0:=bC hn 0
 have hx3:=bC hn 3
 have hx4:=bC hn 4
 have hx5:=bC hn 5
 simp at hx0 hx3 hx4 hx5
 simp [signB,signs] at hx0
 have HB:Hid (∀ o,Below w.heap.size w (w.alloc o)):=fun o=>(Below.refl _ _).alloc (Nat.le_refl _) _
 go_enter Tryz.func134,Tryz.ntmps134
 go_wp2_with fail
 exact bodyPost_ret (v:=.tuple #[.agg #[.int .i64 kd,.int .i64 m,.string ⟨s.toArray⟩],.int .i64 0]) (by simp [results,Tryz.results134,go_sem]) rfl ⟨rfl,HB.out _⟩
theorem put3v {w:World}{R:Nat}{a b c:Value}{T:TypeId}(hR:w.heap[R]?=some (.cells #[a,b,c] T))(x y z:Value):(((w.setCell ⟨R,0,none⟩ x).setCell ⟨R,1,none⟩ y).setCell ⟨R,2,none⟩ z).heap[R]?=some (.cells #[x,y,z] T):=by
 have:=bS (bS (bS hR 0 x) 1 y) 2 z
 simpa using this
theorem retV {Post:Ending->World->Prop}{ts:Array Value}{w1:World}{R:Nat}{a b c x y z er:Value}(hR:w1.heap[R]?=some (.cells #[a,b,c] 34))(h4:ts[4]?=some (.pointer (some ⟨R,0,none⟩)))(h5:ts[5]?=some er)
 (hP:Post (.returned (.tuple #[.agg #[x,y,z],er])) (((w1.setCell ⟨R,0,none⟩ x).setCell ⟨R,1,none⟩ y).setCell ⟨R,2,none⟩ z)) :
 bodyPost Tryz.prog Tryz.f134 Post Exit.ret { tmps:=ts,defers:=[] } (((w1.setCell ⟨R,0,none⟩ x).setCell ⟨R,1,none⟩ y).setCell ⟨R,2,none⟩ z):=by
 have hW:=put3v hR x y z
 generalize ((w1.setCell ⟨R,0,none⟩ x).setCell ⟨R,1,none⟩ y).setCell ⟨R,2,none⟩ z=W at *
 have q0:=bC hW 0
 have q1:=bC hW 1
 have q2:=bC hW 2
 simp at q0 q1 q2
 refine bodyPost_ret (v:=.tuple #[.agg #[x,y,z],er]) ?_ rfl hP
 simp [results,Tryz.results134,go_sem,Act.eval,h4,h5,q0,q1,q2]
abbrev zeroO:Obj:=.cells #[.int .i64 0,.int .i64 0,.string ⟨#[]⟩] 34
theorem valueName (cols:List (Pl.Col × Pl.V))(hcl:cols.length<=1000)(kd m:Int)(s src name:List UInt8)(vl vr v:Value)(n:Nat)(w:World)(hn:w.heap[n]?=some (nodeO 1 vl vr kd m s src name))(hv:RowsW w w.heap.size 6 rcC cols v)(i:Nat)(hc:Pl.colAt (cols.map (·.1)) src name=some i) :
 Calls Tryz.prog 134 #[.pointer (some ⟨n,0,none⟩),v] w fun e w'=>e=.returned (outE (.ok ((cols.map (·.2)).getD i Pl.nul)))/\Below w.heap.size w w':=by
 have hB0:Below w.heap.size w (w.alloc zeroO):=(Below.refl _ _).alloc (Nat.le_refl _) _
 have HV:=Z (hv.below hB0)
 have HP:=Z (placeR cols src name n vl vr _ _ _ _ v (w.alloc zeroO) (bA hn _) (hv.below hB0) hcl)
 have HB0:=Z hB0
 obtain ⟨va,vc,rfl,_⟩:=hv
 have hnl:=lB hn
 have hx0:=bC hn 0
 simp at hx0
 simp [signB,signs] at hx0
 rw [hc] at HP
 simp only [Pl.atI] at HP
 have hil:i<cols.length:=by have:=Pl.colAt_lt hc;simpa using this
 have hi1:i<=1000:=by omega
 have hii:((i:Nat):Int)<((cols.length:Nat):Int):=by omega
 have hty:(cols.map (·.2)).getD i Pl.nul=cols[i].2:=by simp [hil]
 rw [hty]
 generalize hvv:cols[i].2=vv
 have HVv:=Z hvv
 clear hc hB0 hty hvv
 go_enter Tryz.func134,Tryz.ntmps134
 go_wp2_with fail
 refine (U HP).mono ?_
 rintro e w1 ⟨rfl,hb1⟩
 have hR:=bB hb1 (by simp) (blk_new w zeroO)
 have hRz:=lB hR
 have r0:=bC hR 0
 have r1:=bC hR 1
 have r2:=bC hR 2
 simp at r0 r1 r2
 have f0:=bF hR 0
 have f1:=bF hR 1
 have f2:=bF hR 2
 have HB1:=Z (HB0.out.trans (hb1.mono HB0.out.size))
 obtain ⟨_,_,e,h2⟩:=HV.out.below hb1
 cases e
 obtain ⟨g,rfl,hg,h3⟩:=h2 (by rintro rfl;simp at hil)
 have c3:=h3 i _ (List.getElem?_eq_getElem hil) 3 (.int .i64 cols[i].2.kind) rfl
 have c4:=h3 i _ (List.getElem?_eq_getElem hil) 4 (.int .i64 cols[i].2.n) rfl
 have c5:=h3 i _ (List.getElem?_eq_getElem hil) 5 (.string ⟨cols[i].2.s.toArray⟩) rfl
 rw [HVv.out] at c3 c4 c5
 have HR:=Z hR
 clear hb1 HP h2 h3 HV HVv hR
 go_wp2_with fail
 exact retV HR.out rfl rfl ⟨rfl,((HB1.out.setCell (Nat.le_refl _) _).setCell (Nat.le_refl _) _).setCell (Nat.le_refl _) _⟩
def Pl.one (op:Nat)(o:Pl.Out Pl.V):Pl.Out Pl.V:=match o with
 | .error e=>.error e
 | .ok a=>Pl.ap1 op a
theorem valueOne (op:Nat)(h2:2<=op)(h5:op<=5)(o:Pl.Out Pl.V)(ho:∀ a,o=.ok a->Pl.okV a)(he:∀ e,o=.error e->e≠0)(n:Nat)(al:Addr)(vr:Value)(kd m:Int)(s src name:List UInt8)(v:Value)(w:World)(hn:w.heap[n]?=some (nodeO op (.pointer (some al)) vr kd m s src name))(hl:VaC o v (.pointer (some al)) w)(hv:∃ a l c,v=.slice a l c) :
 Calls Tryz.prog 134 #[.pointer (some ⟨n,0,none⟩),v] w fun e w'=>e=.returned (outE (Pl.one op o))/\Below w.heap.size w w':=by
 obtain ⟨va,vn,vc,rfl⟩:=hv
 have hnl:=lB hn
 have hB0:Below w.heap.size w (w.alloc zeroO):=(Below.refl _ _).alloc (Nat.le_refl _) _
 have HL:=Z (hl (w.alloc zeroO) hB0)
 have HN:=Z (bA hn zeroO)
 have HB0:=Z hB0
 have hx0:=bC hn 0
 have hx1:=bC hn 1
 simp at hx0 hx1
 clear hl hn hB0
 have HSet:Hid (∀ w1 x y z,Below w.heap.size w w1->Below w.heap.size w (((w1.setCell ⟨w.heap.size,0,none⟩ x).setCell ⟨w.heap.size,1,none⟩ y).setCell ⟨w.heap.size,2,none⟩ z)):=fun w1 x y z hb=>((hb.setCell (Nat.le_refl _) _).setCell (Nat.le_refl _) _).setCell (Nat.le_refl _) _
 cases o with
 | error er =>
  have her0:=he er rfl
  have her:(((er:Nat):Int) != 0)=true:=by simp;omega
  clear ho he her0
  obtain rfl|rfl|rfl|rfl:op=2\/op=3\/op=4\/op=5:=by omega
  all_goals
   simp [signB,signs] at hx0
   go_enter Tryz.func134,Tryz.ntmps134
   go_wp2_with fail
   refine (U HL).mono ?_
   rintro e w1 ⟨rfl,hb1⟩
   simp only [outE,aggR,Pl.nul]
   have hR:=bB hb1 (by simp) (blk_new w zeroO)
   have HB1:=Z (HB0.out.trans (hb1.mono HB0.out.size))
   have hn1:=bB hb1 (lB HN.out) HN.out
   clear HL hx0 hx1
   go_upto_region 8 with fail
   have hA:=blk_new w1 (.cells #[.int .i64 0,.int .i64 0,.string ⟨#[]⟩] 34)
   have hR2:=bA hR (.cells #[.int .i64 0,.int .i64 0,.string ⟨#[]⟩] 34)
   have hn2:=bA hn1 (.cells #[.int .i64 0,.int .i64 0,.string ⟨#[]⟩] 34)
   have HB2:=Z (HB1.out.alloc HB1.out.size (.cells #[.int .i64 0,.int .i64 0,.string ⟨#[]⟩] 34))
   generalize w1.alloc (.cells #[.int .i64 0,.int .i64 0,.string ⟨#[]⟩] 34)=w2 at *
   generalize w1.heap.size=A at *
   have hAz:=lB hA
   have a0:=bC hA 0
   have a1:=bC hA 1
   have a2:=bC hA 2
   simp at a0 a1 a2
   have hRz:=lB hR2
   have r0:=bC hR2 0
   have r1:=bC hR2 1
   have r2:=bC hR2 2
   simp at r0 r1 r2
   have f0:=bF hR2 0
   have f1:=bF hR2 1
   have f2:=bF hR2 2
   have hnz:=lB hn2
   have y0:=bC hn2 0
   have y2:=bC hn2 2
   simp at y0 y2
   simp [signB,signs] at y0
   have HR:=Z hR2
   have HA:=Z hA
   have HN2:=Z hn2
   clear hA hR2 hn2 hb1 hR hn1 HB1
   go_wp2_with fail
   exact retV HR.out rfl rfl ⟨rfl,HSet.out _ _ _ _ HB2.out⟩
 | ok a =>
  have hoa:=ho a rfl
  have hrg:=hoa.range
  clear ho he
  have HOa:=Z hoa
  simp only [Pl.one]
  cases hm:a.miss with
  | true =>
   have hk0:a.kind=0:=by simpa [Pl.V.miss] using hm
   have g0:(a.kind == 0)=true:=by simp [hk0]
   have g1:(a.kind != 0)=false:=by simp [hk0]
   clear hoa hrg
   obtain rfl|rfl|rfl|rfl:op=2\/op=3\/op=4\/op=5:=by omega
   all_goals
    simp [signB,signs] at hx0
    simp [Pl.ap1,Pl.neg,Pl.opp,hm]
    clear hk0 hm
    go_enter Tryz.func134,Tryz.ntmps134
    go_wp2_with fail
    refine (U HL).mono ?_
    rintro e w1 ⟨rfl,hb1⟩
    simp only [outE,aggR]
    have hR:=bB hb1 (by simp) (blk_new w zeroO)
    have HB1:=Z (HB0.out.trans (hb1.mono HB0.out.size))
    have hn1:=bB hb1 (lB HN.out) HN.out
    clear HL hx0 hx1
    go_upto_region 8 with fail
    have hA:=blk_new w1 (.cells #[.int .i64 a.kind,.int .i64 a.n,.string ⟨a.s.toArray⟩] 34)
    have hR2:=bA hR (.cells #[.int .i64 a.kind,.int .i64 a.n,.string ⟨a.s.toArray⟩] 34)
    have hn2:=bA hn1 (.cells #[.int .i64 a.kind,.int .i64 a.n,.string ⟨a.s.toArray⟩] 34)
    have HB2:=Z (HB1.out.alloc HB1.out.size (.cells #[.int .i64 a.kind,.int .i64 a.n,.string ⟨a.s.toArray⟩] 34))
    generalize w1.alloc (.cells #[.int .i64 a.kind,.int .i64 a.n,.string ⟨a.s.toArray⟩] 34)=w2 at *
    generalize w1.heap.size=A at *
    have hAz:=lB hA
    have a0:=bC hA 0
    have a1:=bC hA 1
    have a2:=bC hA 2
    simp at a0 a1 a2
    have hRz:=lB hR2
    have r0:=bC hR2 0
    have r1:=bC hR2 1
    have r2:=bC hR2 2
    simp at r0 r1 r2
    have f0:=bF hR2 0
    have f1:=bF hR2 1
    have f2:=bF hR2 2
    have hnz:=lB hn2
    have y0:=bC hn2 0
    have y2:=bC hn2 2
    simp at y0 y2
    simp [signB,signs] at y0
    have HR:=Z hR2
    have HA:=Z hA
    have HN2:=Z hn2
    clear hA hR2 hn2 hb1 hR hn1 HB1
    go_wp2_with fail
   ·exact retV HR.out rfl rfl ⟨rfl,HSet.out _ _ _ _ HB2.out⟩
   ·exact retV HR.out rfl rfl ⟨rfl,HSet.out _ _ _ _ HB2.out⟩
   ·refine (truthR true w2).mono ?_
    rintro e w3 ⟨rfl,hb3⟩
    have hR3:=bB hb3 hRz HR.out
    have hRz3:=lB hR3
    have s0:=bC hR3 0
    have s1:=bC hR3 1
    have s2:=bC hR3 2
    simp at s0 s1 s2
    have t0:=bF hR3 0
    have t1:=bF hR3 1
    have t2:=bF hR3 2
    have HB3:=Z (HB2.out.trans (hb3.mono HB2.out.size))
    have HR3:=Z hR3
    clear hb3 hR3 r0 r1 r2 f0 f1 f2 hRz
    simp only [aggR,Pl.tru,if_true]
    go_wp2_with fail
    exact retV HR3.out rfl rfl ⟨rfl,HSet.out _ _ _ _ HB3.out⟩
   ·refine (truthR false w2).mono ?_
    rintro e w3 ⟨rfl,hb3⟩
    have hR3:=bB hb3 hRz HR.out
    have hRz3:=lB hR3
    have s0:=bC hR3 0
    have s1:=bC hR3 1
    have s2:=bC hR3 2
    simp at s0 s1 s2
    have t0:=bF hR3 0
    have t1:=bF hR3 1
    have t2:=bF hR3 2
    have HB3:=Z (HB2.out.trans (hb3.mono HB2.out.size))
    have HR3:=Z hR3
    clear hb3 hR3 r0 r1 r2 f0 f1 f2 hRz
    simp only [aggR,Pl.tru,if_true]
    go_wp2_with fail
    exact retV HR3.out rfl rfl ⟨rfl,HSet.out _ _ _ _ HB3.out⟩
  | false =>
   have hk0:a.kind≠0:=by simpa [Pl.V.miss] using hm
   have g0:(a.kind == 0)=false:=by simp [hk0]
   have g1:(a.kind != 0)=true:=by simp [hk0]
   have hin:Pl.in64 a.n:=hrg
   have HRk:=Z (fun W=>reckonSub 0 a.n W (by unfold Pl.in64;omega) hin)
   rw [Int.zero_sub] at HRk
   generalize hoo:Pl.ranged (-a.n)=oo at *
   have HOo:=Z hoo
   clear hoa hrg hin hoo
   cases hn0:(a.n == 0)
   all_goals obtain rfl|rfl|rfl|rfl:op=2\/op=3\/op=4\/op=5:=by omega
   all_goals
    simp [signB,signs] at hx0
    simp only [Pl.ap1,Pl.neg,Pl.opp,hm,hn0]
    simp
    try rw [HOo.out]
    clear hk0 hm
    go_enter Tryz.func134,Tryz.ntmps134
    go_wp2_with fail
    refine (U HL).mono ?_
    rintro e w1 ⟨rfl,hb1⟩
    simp only [outE,aggR]
    have hR:=bB hb1 (by simp) (blk_new w zeroO)
    have HB1:=Z (HB0.out.trans (hb1.mono HB0.out.size))
    have hn1:=bB hb1 (lB HN.out) HN.out
    clear HL hx0 hx1
    go_upto_region 8 with fail
    have hA:=blk_new w1 (.cells #[.int .i64 a.kind,.int .i64 a.n,.string ⟨a.s.toArray⟩] 34)
    have hR2:=bA hR (.cells #[.int .i64 a.kind,.int .i64 a.n,.string ⟨a.s.toArray⟩] 34)
    have hn2:=bA hn1 (.cells #[.int .i64 a.kind,.int .i64 a.n,.string ⟨a.s.toArray⟩] 34)
    have HB2:=Z (HB1.out.alloc HB1.out.size (.cells #[.int .i64 a.kind,.int .i64 a.n,.string ⟨a.s.toArray⟩] 34))
    generalize w1.alloc (.cells #[.int .i64 a.kind,.int .i64 a.n,.string ⟨a.s.toArray⟩] 34)=w2 at *
    generalize w1.heap.size=A at *
    have hAz:=lB hA
    have a0:=bC hA 0
    have a1:=bC hA 1
    have a2:=bC hA 2
    simp at a0 a1 a2
    have hRz:=lB hR2
    have r0:=bC hR2 0
    have r1:=bC hR2 1
    have r2:=bC hR2 2
    simp at r0 r1 r2
    have f0:=bF hR2 0
    have f1:=bF hR2 1
    have f2:=bF hR2 2
    have hnz:=lB hn2
    have y0:=bC hn2 0
    have y2:=bC hn2 2
    simp at y0 y2
    simp [signB,signs] at y0
    have HR:=Z hR2
    have HA:=Z hA
    have HN2:=Z hn2
    clear hA hR2 hn2 hb1 hR hn1 HB1
    go_wp2_with fail
   ·refine ((U HRk) w2).mono ?_
    rintro e w3 ⟨rfl,hb3⟩
    have hR3:=bB hb3 hRz HR.out
    have hRz3:=lB hR3
    have s0:=bC hR3 0
    have s1:=bC hR3 1
    have s2:=bC hR3 2
    simp at s0 s1 s2
    have t0:=bF hR3 0
    have t1:=bF hR3 1
    have t2:=bF hR3 2
    have HB3:=Z (HB2.out.trans (hb3.mono HB2.out.size))
    have HR3:=Z hR3
    clear hb3 hR3 r0 r1 r2 f0 f1 f2 hRz HRk
    clear HOo
    cases oo with
    | error e2 =>
     simp only [outE,aggR,Pl.nul]
     go_wp2_with fail
     exact retV HR3.out rfl rfl ⟨rfl,HSet.out _ _ _ _ HB3.out⟩
    | ok v2 =>
     simp only [outE,aggR]
     go_wp2_with fail
     exact retV HR3.out rfl rfl ⟨rfl,HSet.out _ _ _ _ HB3.out⟩
   ·refine (truthR _ w2).mono ?_
    rintro e w3 ⟨rfl,hb3⟩
    have hR3:=bB hb3 hRz HR.out
    have hRz3:=lB hR3
    have s0:=bC hR3 0
    have s1:=bC hR3 1
    have s2:=bC hR3 2
    simp at s0 s1 s2
    have t0:=bF hR3 0
    have t1:=bF hR3 1
    have t2:=bF hR3 2
    have HB3:=Z (HB2.out.trans (hb3.mono HB2.out.size))
    have HR3:=Z hR3
    clear hb3 hR3 r0 r1 r2 f0 f1 f2 hRz
    simp only [aggR,Pl.tru,if_true]
    go_wp2_with fail
    exact retV HR3.out rfl rfl ⟨rfl,HSet.out _ _ _ _ HB3.out⟩
   ·refine (truthR _ w2).mono ?_
    rintro e w3 ⟨rfl,hb3⟩
    have hR3:=bB hb3 hRz HR.out
    have hRz3:=lB hR3
    have s0:=bC hR3 0
    have s1:=bC hR3 1
    have s2:=bC hR3 2
    simp at s0 s1 s2
    have t0:=bF hR3 0
    have t1:=bF hR3 1
    have t2:=bF hR3 2
    have HB3:=Z (HB2.out.trans (hb3.mono HB2.out.size))
    have HR3:=Z hR3
    clear hb3 hR3 r0 r1 r2 f0 f1 f2 hRz
    simp only [aggR,Pl.tru,if_true]
    go_wp2_with fail
    exact retV HR3.out rfl rfl ⟨rfl,HSet.out _ _ _ _ HB3.out⟩
   ·refine (truthR _ w2).mono ?_
    rintro e w3 ⟨rfl,hb3⟩
    have hR3:=bB hb3 hRz HR.out
    have hRz3:=lB hR3
    have s0:=bC hR3 0
    have s1:=bC hR3 1
    have s2:=bC hR3 2
    simp at s0 s1 s2
    have t0:=bF hR3 0
    have t1:=bF hR3 1
    have t2:=bF hR3 2
    have HB3:=Z (HB2.out.trans (hb3.mono HB2.out.size))
    have HR3:=Z hR3
    clear hb3 hR3 r0 r1 r2 f0 f1 f2 hRz
    simp only [aggR,Pl.tru,if_true]
    go_wp2_with fail
    exact retV HR3.out rfl rfl ⟨rfl,HSet.out _ _ _ _ HB3.out⟩
   ·refine ((U HRk) w2).mono ?_
    rintro e w3 ⟨rfl,hb3⟩
    have hR3:=bB hb3 hRz HR.out
    have hRz3:=lB hR3
    have s0:=bC hR3 0
    have s1:=bC hR3 1
    have s2:=bC hR3 2
    simp at s0 s1 s2
    have t0:=bF hR3 0
    have t1:=bF hR3 1
    have t2:=bF hR3 2
    have HB3:=Z (HB2.out.trans (hb3.mono HB2.out.size))
    have HR3:=Z hR3
    clear hb3 hR3 r0 r1 r2 f0 f1 f2 hRz HRk
    clear HOo
    cases oo with
    | error e2 =>
     simp only [outE,aggR,Pl.nul]
     go_wp2_with fail
     exact retV HR3.out rfl rfl ⟨rfl,HSet.out _ _ _ _ HB3.out⟩
    | ok v2 =>
     simp only [outE,aggR]
     go_wp2_with fail
     exact retV HR3.out rfl rfl ⟨rfl,HSet.out _ _ _ _ HB3.out⟩
   ·refine (truthR _ w2).mono ?_
    rintro e w3 ⟨rfl,hb3⟩
    have hR3:=bB hb3 hRz HR.out
    have hRz3:=lB hR3
    have s0:=bC hR3 0
    have s1:=bC hR3 1
    have s2:=bC hR3 2
    simp at s0 s1 s2
    have t0:=bF hR3 0
    have t1:=bF hR3 1
    have t2:=bF hR3 2
    have HB3:=Z (HB2.out.trans (hb3.mono HB2.out.size))
    have HR3:=Z hR3
    clear hb3 hR3 r0 r1 r2 f0 f1 f2 hRz
    simp only [aggR,Pl.tru,if_true]
    go_wp2_with fail
    exact retV HR3.out rfl rfl ⟨rfl,HSet.out _ _ _ _ HB3.out⟩
   ·refine (truthR _ w2).mono ?_
    rintro e w3 ⟨rfl,hb3⟩
    have hR3:=bB hb3 hRz HR.out
    have hRz3:=lB hR3
    have s0:=bC hR3 0
    have s1:=bC hR3 1
    have s2:=bC hR3 2
    simp at s0 s1 s2
    have t0:=bF hR3 0
    have t1:=bF hR3 1
    have t2:=bF hR3 2
    have HB3:=Z (HB2.out.trans (hb3.mono HB2.out.size))
    have HR3:=Z hR3
    clear hb3 hR3 r0 r1 r2 f0 f1 f2 hRz
    simp only [aggR,Pl.tru,if_true]
    go_wp2_with fail
    exact retV HR3.out rfl rfl ⟨rfl,HSet.out _ _ _ _ HB3.out⟩
   ·refine (truthR _ w2).mono ?_
    rintro e w3 ⟨rfl,hb3⟩
    have hR3:=bB hb3 hRz HR.out
    have hRz3:=lB hR3
    have s0:=bC hR3 0
    have s1:=bC hR3 1
    have s2:=bC hR3 2
    simp at s0 s1 s2
    have t0:=bF hR3 0
    have t1:=bF hR3 1
    have t2:=bF hR3 2
    have HB3:=Z (HB2.out.trans (hb3.mono HB2.out.size))
    have HR3:=Z hR3
    clear hb3 hR3 r0 r1 r2 f0 f1 f2 hRz
    simp only [aggR,Pl.tru,if_true]
    go_wp2_with fail
    exact retV HR3.out rfl rfl ⟨rfl,HSet.out _ _ _ _ HB3.out⟩
theorem RDbW.slice {w:World}{M:Nat->Prop}{b:Nat}{lay:List Lay}{D:Pl.DB}(h:RDbW w M b lay D):∃ a c,w.heap[b]?=some (.cells #[.slice a D.length c] 105)/\∀ (i:Nat)(l:Lay),lay[i]?=some l->∃ g,a=some ⟨g,0,none⟩/\g<w.heap.size/\w.cell? ⟨g,i,none⟩=some (layPtr l):=by
 obtain ⟨tv,h1,h2,h3⟩:=h.box
 rcases h2.2 with ⟨rfl,h0⟩|⟨g,cap,cur,rfl,hb,hg,hc,hm,hs,ht⟩
 ·refine ⟨none,0,by rw [h0];exact h1,fun i l hl=>?_⟩
  rw [List.length_eq_zero_iff.1 (h.len.trans h0)] at hl;simp at hl
 ·refine ⟨_,cap,h1,fun i l hl=>⟨g,rfl,lB hg,?_⟩⟩
  have h4:(lay.map layPtr)[i]?=some (layPtr l):=by rw [List.getElem?_map,hl];rfl
  rw [<- ht,List.getElem?_take] at h4
  split at h4
  ·rw [bC hg];simpa using h4
  ·cases h4
theorem findR (name:List UInt8)(w:World)(M:Nat->Prop)(b:Nat)(lay:List Lay)(D:Pl.DB)(h:RDbW w M b lay D) :
 Calls Tryz.prog 78 #[.pointer (some ⟨b,0,none⟩),.string ⟨name.toArray⟩] w fun e w'=>e=.returned (tabPtr lay (Pl.tabAt D name))/\w'=w:=by
 obtain ⟨ta,tc,hbx,hat⟩:=h.slice
 have hb:=lB hbx
 have c0:=bC hbx 0
 simp at c0
 have hD:D.length<=6:=h.ok.1
 have HA:=Z hat
 have HW:=Z h
 generalize ho:tabPtr lay (Pl.tabAt D name)=out
 have HO:=Z ho
 clear h hbx hat ho
 go_enter Tryz.func78,Tryz.ntmps78
 go_wp2_with fail
 go_loop [5] (fun a=>∃ i:Nat,i<=D.length/\a=.int .i64 i/\Hid (∀ (j:Nat) (t:Pl.Tab),j<i->D[j]?=some t->t.name≠name)) (fun a=>D.length - (intOf a).toNat)
 case atStart=>exact ⟨0,Nat.zero_le _,rfl,fun j t hj=>by omega⟩
 case round =>
  obtain ⟨i,hi,rfl,HN⟩:=hrel
  by_cases hlt:i<D.length
  ·have hdi:D[i]?=some D[i]:=List.getElem?_eq_getElem hlt
   have hli:lay[i]?=some (lay[i]'(by rw [HW.out.len];exact hlt)):=List.getElem?_eq_getElem _
   generalize lay[i]'(by rw [HW.out.len];exact hlt)=l at *
   generalize D[i]=t at *
   obtain ⟨g,rfl,hg,e0⟩:=HA.out i l hli
   obtain ⟨cv,hbl,_,_⟩:=(HW.out.tabs i l t hli hdi).blk
   have n0:=bC hbl 0
   simp at n0
   have hnl:=lB hbl
   unfold layPtr at e0
   by_cases hq:t.name=name
   ·obtain ⟨qa,qb⟩:=eq_facts hq
    have HE:Hid (out=.pointer (some ⟨l.n,0,none⟩)):=by
     unfold Hid
     rw [<- HO.out,Pl.tabAt_some HN.out hdi hq]
     simp [tabPtr,List.getD,hli,layPtr]
    clear hbl hq
    go_wp2_with fail
    go_ret
    exact ⟨by rw [HE.out];rfl,rfl⟩
   ·obtain ⟨qa,qb⟩:=ne_facts hq
    have HN2:Hid (∀ (j:Nat) (s:Pl.Tab),j<i+1->D[j]?=some s->s.name≠name):=fun j s hj hs=>by
     by_cases e:j=i
     ·subst e;rw [hdi] at hs;cases hs;exact hq
     ·exact HN.out j s (by omega) hs
    clear hbl hq
    go_wp2_with fail
    go_round
    case rel=>exact ⟨i+1,by omega,by go_num,HN2⟩
    case measure=>simp [intOf];omega
  ·have HE:Hid (out=.pointer none):=by
    unfold Hid
    rw [<- HO.out,Pl.tabAt_none (fun j t hj=>HN.out j t (by
     have:j<D.length:=by
      rcases Nat.lt_or_ge j D.length with h|h
      ·exact h
      ·rw [List.getElem?_eq_none h] at hj;cases hj
     omega) hj)]
    rfl
   go_wp2_with fail
   go_ret
   exact ⟨by rw [HE.out];rfl,rfl⟩
def ItsR (w:World)(hi:Nat)(ps:List (Pl.T × Value))(v:Value):Prop:=∃ a c,v=.slice a ps.length c/\(ps≠[]->∃ g,a=some ⟨g,0,none⟩/\g<hi/\∀ i p,ps[i]?=some p->w.cell? ⟨g,i*5+3,none⟩=some p.2)
theorem ItsR.below {w w':World}{ps:List (Pl.T × Value)}{v:Value}(h:ItsR w w.heap.size ps v)(hb:Below w.heap.size w w'):ItsR w' w'.heap.size ps v:=by
 obtain ⟨a,c,rfl,h2⟩:=h
 refine ⟨a,c,rfl,fun hn=>?_⟩
 obtain ⟨g,rfl,hg,h3⟩:=h2 hn
 exact ⟨g,rfl,Nat.lt_of_lt_of_le hg hb.size,fun i p hp=>(World.cell?_of_block (hb.block g hg)).trans (h3 i p hp)⟩
theorem valuesR (cols:List Pl.Col)(row:List Pl.V)(ps:List (Pl.T × Value))(pv rv:Value)(w:World)(hp:ItsR w w.heap.size ps pv)(hf:∀ p ∈ ps,VaC (Pl.ev cols row p.1) rv p.2 w/\∃ a,p.2=.pointer a)(hr:∃ a l c,rv=.slice a l c)(hl:ps.length<=1000) :
 Calls Tryz.prog 80 #[pv,rv] w (PostAll w (Pl.evAll cols row (ps.map (·.1)))):=by
 have HP:=Z hp
 obtain ⟨pa,pc,rfl,_⟩:=hp
 obtain ⟨ra,rn,rc,rfl⟩:=hr
 obtain ⟨i0,hi,hz0,hz1,hz2⟩:=info_parts Tryz.infoVal
 have HF:=Z hf
 generalize ho:Pl.evAll cols row (ps.map (·.1))=o
 have HO:=Z ho
 have HI0:Hid (AllI w w o cols row ps 0 (.slice none 0 0) []):=⟨Below.refl _ _,World.ownsRow_nil _ _ _ _,rfl,by rw [<- HO.out];simp;cases Pl.evAll cols row (ps.map (·.1)) <;> simp [addTo]⟩
 clear hf ho
 go_enter Tryz.func80,Tryz.ntmps80
 go_wp2_with fail
 go_loopw [6,7] (fun s6 s7 wr=>∃ (i:Nat) (acc:List Pl.V),i<=ps.length/\s7=.int .i64 i/\Hid (AllI w wr o cols row ps i s6 acc)) (fun _ a _=>ps.length - (intOf a).toNat)
 case atStart=>exact ⟨0,[],Nat.zero_le _,rfl,HI0⟩
 case round =>
  obtain ⟨i,acc,hi',rfl,HI⟩:=hrel
  clear HI0
  obtain ⟨hbI,hown,hacc,hoI⟩:=HI.out
  obtain ⟨va,vn,vc,rfl⟩:=own_slice hown
  have hbz:=hbI.size
  by_cases hlt:i<ps.length
  ·have hpi:ps[i]?=some ps[i]:=List.getElem?_eq_getElem hlt
   have HD:Hid (ps.drop i=ps[i] :: ps.drop (i+1)):=List.drop_eq_getElem_cons hlt
   have hmem:=List.getElem_mem hlt
   generalize ps[i]=p at *
   obtain ⟨pt,pcv⟩:=p
   obtain ⟨_,_,he,h2⟩:=HP.out.below hbI
   cases he
   obtain ⟨g,rfl,hgz,h3⟩:=h2 (by rintro rfl;simp at hlt)
   have e0:=h3 i _ hpi
   simp only at e0
   obtain ⟨hva,pq,hpq⟩:=HF.out _ hmem
   simp only at hpq hva
   subst hpq
   have HRun:=Z (hva wr hbI)
   have HB1:=Z hbI
   have HOwn:=Z hown
   have HoI:=Z hoI
   clear hbI hown hoI HI hva h2 h3
   cases hev:Pl.ev cols row pt with
   | error er =>
    have her:((er:Int) != 0)=true:=by have:=ev_err hev;simp;omega
    rw [hev] at HRun
    have HE:Hid (o=.error er):=by unfold Hid;rw [HoI.out,HD.out];exact addTo_err hev
    simp only [outE,aggR,Pl.nul] at HRun
    go_wp2_with fail
    refine (U HRun).mono ?_
    rintro e w2 ⟨rfl,hb2⟩
    have HB2:=Z (HB1.out.trans (hb2.mono HB1.out.size))
    clear hb2 HRun
    go_wp2_with fail
    exact bodyPost_ret (v:=.tuple #[.slice none 0 0,.int .i64 (er:Nat)]) (by simp [results,Tryz.results80,go_sem]) rfl ⟨HB2.out.alloc HB2.out.size _,.inl ⟨er,HE.out,rfl⟩⟩
   | ok x =>
    rw [hev] at HRun
    have HN:Hid (o=addTo (acc++[x]) (Pl.evAll cols row ((ps.drop (i+1)).map (·.1)))):=by unfold Hid;rw [HoI.out,HD.out];exact addTo_step hev
    simp only [outE,aggR] at HRun
    go_wp2_with fail
    refine (U HRun).mono ?_
    rintro e w2 ⟨rfl,hb2⟩
    have HB2:=Z (HB1.out.trans (hb2.mono HB1.out.size))
    have hown2:=own_below hb2 HOwn.out
    have hsz2:w.heap.size<=w2.heap.size:=HB2.out.size
    clear hb2 HRun HOwn
    go_wp2_with (at_builtin;refine wpList_append_own _ rfl (.tmp 29) (.tmp 31) 32 rfl w.heap.size 34 i0 _ 3 32 Tryz.underlying32 hi hz0 hz1 hz2 rfl (by decide) _ _ _ rfl ((hown2.alloc _).alloc _) ⟨w2.heap.size+1,0,none⟩ 1 1 (vC x) rfl rfl ?c1 ?c2 ?c3 ?c4 ?c5 ?_)
    case c1=>exact news2 w2 _ (vC x) 34
    case c2=>exact vC_one x
    case c3=>unfold maxLen;omega
    case c4=>omega
    case c5=>simp;omega
    intro v' w4 hown4 hg4 hnil
    have HI4:Hid (AllI w w4 o cols row ps (i+1) v' (acc++[x])):=by
     refine ⟨below_grown ((HB2.out.alloc HB2.out.size _).alloc (by have:=HB2.out.size;simp;omega) _) hg4 (fun k hk=>(hown2.lt k hk).1) (by simp;omega),?_,by simp [hacc],HN.out⟩
     rw [rowC_app,rowC_one,List.length_append,List.length_singleton,hacc]
     exact hown4
    clear hown2 hown4 hg4 hnil
    go_wp2_with fail
    go_roundw
    case rel=>exact ⟨i+1,acc++[x],by omega,by go_num,HI4⟩
    case measure=>simp [intOf];omega
  ·have HE:Hid (o=.ok acc):=by
    unfold Hid
    rw [hoI,List.drop_eq_nil_of_le (by omega)]
    simp [Pl.evAll,addTo]
   have HB:=Z hbI
   have HOwn:=Z hown
   clear hbI hown hoI HI
   go_wp2_with fail
   exact bodyPost_ret (v:=.tuple #[.slice va vn vc,.int .i64 0]) (by simp [results,Tryz.results80,go_sem]) rfl ⟨HB.out,.inr ⟨acc,_,HE.out,rfl,HOwn.out⟩⟩
theorem own_cell {w:World}{base:Nat}{e:TypeId}{size n:Nat}{v:Value}{xs:List Value}(h:w.ownsRow base e size v n xs){j:Nat}{u:Value}(hj:xs[j]?=some u):∃ g cap,v=.slice (some ⟨g,0,none⟩) n cap/\base<=g/\g<w.heap.size/\w.cell? ⟨g,j,none⟩=some u:=by
 rcases h.2 with ⟨rfl,h0⟩|⟨g,cap,cur,rfl,hb,hg,hc,hm,hs,ht⟩
 ·have:=h.1
  rw [h0] at this
  simp at this
  subst this
  simp at hj
 ·refine ⟨g,cap,rfl,hb,lB hg,?_⟩
  rw [<- ht,List.getElem?_take] at hj
  split at hj
  ·rw [bC hg];simpa using hj
  ·cases hj
theorem RDbW.tab_of {w:World}{M:Nat->Prop}{b:Nat}{lay:List Lay}{D:Pl.DB}(h:RDbW w M b lay D){i:Nat}(hi:i<D.length):∃ l,lay[i]?=some l/\D[i]?=some (Pl.tabD D i)/\tabPtr lay (some i)=.pointer (some ⟨l.n,0,none⟩):=by
 have hil:i<lay.length:=by rw [h.len];exact hi
 refine ⟨lay[i],List.getElem?_eq_getElem hil,?_,?_⟩
 ·rw [List.getElem?_eq_getElem hi];simp [Pl.tabD,List.getD,hi]
 ·simp [tabPtr,List.getD,hil,layPtr]
def RPostCr (lo:Nat)(w:World)(M:Nat->Prop)(b:Nat)(o:Pl.DB × Pl.Ans)(e:Ending)(w':World):Prop :=
 e=.returned (.int .i64 (o.2.err:Nat))/\∃ M' lay',RDbStep lo w M b o.1 w' M' lay'
theorem Tryz.infoRTab:(Tryz.prog.info? 154).map (fun i=>(i.zero,i.size,i.bytes))=some (some (.pointer none),1,8):=by kernel_rfl
theorem createR (lo:Nat)(s:Pl.St)(hs:Pl.okSt s)(hk:s.kind=99)(n base:Nat)(cv:Value)(cs0:List Value)(u0 u3 u4 u5 u6 u7 u8 u9:Value)(w:World)(M:Nat->Prop)(b:Nat)(lay:List Lay)(D:Pl.DB)(h:RDbW w M b lay D)(hlo:lo<=w.heap.size)
 (hn:w.heap[n]?=some (.cells #[u0,.string ⟨s.table.toArray⟩,cv,u3,u4,u5,u6,u7,u8,u9] 111)) (hcv:w.ownsRow base 157 5 cv (colsOf s).length cs0) (hfl:FldAt (colsOf s) cs0) (hcl:∀ k,cv.ownBlock=some k->lo<=k) :
 Calls Tryz.prog 48 #[.pointer (some ⟨b,0,none⟩),.pointer (some ⟨n,0,none⟩)] w (RPostCr lo w M b (Pl.doCreate D s)):=by
 have HS:=Z hs
 have hnz:=lB hn
 have n1:=bC hn 1
 have n2:=bC hn 2
 simp at n1 n2
 have hl5:(colsOf s).length<=5:=by simp [colsOf];exact (hs.create hk).1
 have HF:=Z (findR s.table w M b lay D h)
 have HN:=Z hn
 have HX:=Z h
 have HCv:=Z hcv
 have HFl:=Z hfl
 have HCl:=Z hcl
 obtain ⟨ca,cc,rfl,hcap⟩:=own_cap hcv
 have hnm:nmsOf (colsOf s)=s.items.map (·.name):=by simp [nmsOf,colsOf]
 generalize hD2:Pl.doCreate D s=out
 have HD2:=Z hD2
 have HNo:Hid (∀ er w',out=(D,Pl.no er)->Below w.heap.size w w'->RPostCr lo w M b out (.returned (.int .i64 (er:Nat))) w'):=fun er w' ho hb=>by
  rw [ho];exact ⟨rfl,M,lay,RDbStep.below h hb⟩
 have HYes:Hid (∀ w' M' lay' D',out=(D',Pl.no 0)->RDbStep lo w M b D' w' M' lay'->RPostCr lo w M b out (.returned (.int .i64 0)) w'):=fun w' M' lay' D' ho hst=>by
  rw [ho];exact ⟨rfl,M',lay',hst⟩
 generalize RPostCr lo w M b out=Post at *
 obtain ⟨ta,tc,hbx,_⟩:=h.slice
 have hbz:=lB hbx
 have HBx:=Z hbx
 clear hs hn h hcv hcl hD2 hbx hfl
 cases hta:Pl.tabAt D s.table with
 | some i =>
  have HE:=Z (HNo.out 2 w (by rw [<- HD2.out];unfold Pl.doCreate;rw [hta];simp) (Below.refl _ _))
  obtain ⟨l,_,_,hptr⟩:=HX.out.tab_of (Pl.tabAt_lt hta)
  rw [hta,hptr] at HF
  clear hta hptr
  go_enter Tryz.func48,Tryz.ntmps48
  go_wp2_with fail
  refine (U HF).mono ?_
  rintro e w1 ⟨rfl,rfl⟩
  go_wp2_with fail
  exact HE.out
 | none =>
  rw [hta] at HF
  simp only [tabPtr] at HF
  have HEd:Hid (Pl.dup (nmsOf (colsOf s))=true->∀ w',Below w.heap.size w w'->Post (.returned (.int .i64 2)) w'):=fun hd w'=>HNo.out 2 w' (by rw [<- HD2.out];unfold Pl.doCreate;rw [hta,<- hnm,hd];simp)
  have HE6:Hid (Pl.dup (nmsOf (colsOf s))=false->D.length=6->∀ w',Below w.heap.size w w'->Post (.returned (.int .i64 6)) w'):=fun hd h6 w'=>HNo.out 6 w' (by rw [<- HD2.out];unfold Pl.doCreate;rw [hta,<- hnm,hd,if_neg (by simp),if_pos h6])
  have HOut:Hid (Pl.dup (nmsOf (colsOf s))=false->D.length≠6->out=(D++[⟨s.table,colsOf s,[]⟩],Pl.no 0)):=fun hd h6=>by
   rw [<- HD2.out];unfold Pl.doCreate;rw [hta,<- hnm,hd,if_neg (by simp),if_neg h6];rfl
  have HOk:Hid (out=(D++[⟨s.table,colsOf s,[]⟩],Pl.no 0)->Pl.okDB (D++[⟨s.table,colsOf s,[]⟩])):=fun ho=>by
   have:=Pl.doSt_ok HS.out HX.out.ok
   unfold Pl.doSt at this
   rw [if_pos hk,HD2.out,ho] at this
   exact this
  have hD6:=HX.out.ok.1
  clear hta hnm HNo
  generalize colsOf s=cs at *
  go_enter Tryz.func48,Tryz.ntmps48
  go_wp2_with fail
  refine (U HF).mono ?_
  rintro e w1 ⟨rfl,rfl⟩
  go_wp2_with fail
  go_loopw [6] (fun a wr=>∃ (i q:Nat),i<=cs.length/\a=.int .i64 i/\wr=w1.drewN q/\Hid (Pl.dup (nmsOf cs)=Pl.dupGo (nmsOf (cs.take i)) (nmsOf (cs.drop i)))) (fun a _=>cs.length - (intOf a).toNat)
  case atStart=>exact ⟨0,0,Nat.zero_le _,rfl,rfl,rfl⟩
  case round =>
   obtain ⟨i,q,hi,rfl,rfl,HD⟩:=hrel
   by_cases hlt:i<cs.length
   ·have hpi:cs[i]?=some cs[i]:=List.getElem?_eq_getElem hlt
    have HDr:Hid (cs.drop i=cs[i] :: cs.drop (i+1)):=List.drop_eq_getElem_cons hlt
    have HTk:Hid (cs.take (i+1)=cs.take i++[cs[i]]):=by unfold Hid;rw [List.take_add_one,hpi];rfl
    generalize cs[i]=c at *
    obtain ⟨g,_,he,_,hgz,e0⟩:=own_cell HCv.out (HFl.out i c hpi).1
    cases he
    have hii:((i:Nat):Int)<((cs.length:Nat):Int):=by omega
    go_wp2_with fail
    go_loopw [7] (fun a wr=>∃ (j q2:Nat),j<=i/\a=.int .i64 j/\wr=w1.drewN q2/\Hid (∀ q d,q<j->cs[q]?=some d->d.1≠c.1)) (fun a _=>i - (intOf a).toNat)
    case atStart=>exact ⟨0,q,Nat.zero_le _,rfl,rfl,fun q d hq=>by omega⟩
    case round =>
     obtain ⟨j,q2,hj,rfl,rfl,HNj⟩:=hrel
     by_cases hjt:j<i
     ·have hpj:cs[j]?=some (cs[j]'(by omega)):=List.getElem?_eq_getElem _
      generalize cs[j]'(by omega)=d at *
      obtain ⟨_,_,he2,_,_,f0⟩:=own_cell HCv.out (HFl.out j d hpj).1
      cases he2
      have hji:((j:Nat):Int)<((cs.length:Nat):Int):=by omega
      go_upto_region 10 with fail
      by_cases hq:d.1=c.1
      ·have HE:Hid (Pl.dup (nmsOf cs)=true):=by
        unfold Hid
        rw [HD.out,HDr.out]
        show Pl.dupGo _ (c.1 :: nmsOf (cs.drop (i+1)))=true
        rw [Pl.dupGo]
        have hm:c.1 ∈ nmsOf (cs.take i):=by
         unfold nmsOf
         rw [List.mem_map]
         refine ⟨d,?_,hq⟩
         rw [List.mem_iff_getElem?]
         exact ⟨j,by rw [List.getElem?_take,if_pos hjt];exact hpj⟩
        simp [hm]
       have HP:=Z (fun m=>HEd.out HE.out _ (below_drewN (Below.refl w1.heap.size w1) m))
       obtain ⟨qa,qb⟩:=eq_facts hq.symm
       clear hq HE
       go_cut [46] from 25 to 46 (fun s46 wx=>∃ q3:Nat,s46=.bool true/\wx=w1.drewN q3)
       case first =>
        go_quiet (fail)
        all_goals go_wp2_with fail
        all_goals go_meet
        all_goals exact ⟨_,rfl,by first|rfl|rw [World.drewN_drewN]⟩
       case rest =>
        obtain ⟨q3,rfl,rfl⟩:=hcut
        go_wp2_with fail
        exact HP.out _
      ·obtain ⟨qa,qb⟩:=ne_facts (fun h=>hq h.symm:¬ c.1=d.1)
       have HN2:Hid (∀ q d',q<j+1->cs[q]?=some d'->d'.1≠c.1):=fun q d' hq' hd'=>by
        by_cases e:q=j
        ·subst e;rw [hpj] at hd';cases hd';exact hq
        ·exact HNj.out q d' (by omega) hd'
       clear hq
       go_cut [46] from 25 to 46 (fun s46 wx=>∃ q3:Nat,s46=.bool false/\wx=w1.drewN q3)
       case first =>
        go_quiet (fail)
        all_goals go_wp2_with fail
        all_goals go_meet
        all_goals exact ⟨_,rfl,by first|rfl|rw [World.drewN_drewN]⟩
       case rest =>
        obtain ⟨q3,rfl,rfl⟩:=hcut
        go_wp2_with fail
        go_roundw
        case rel=>exact ⟨j+1,q3,by omega,by go_num,rfl,HN2⟩
        case measure=>simp [intOf];omega
     ·have HD2:Hid (Pl.dup (nmsOf cs)=Pl.dupGo (nmsOf (cs.take (i+1))) (nmsOf (cs.drop (i+1)))):=by
       unfold Hid
       rw [HD.out,HDr.out,HTk.out]
       show Pl.dupGo _ (c.1 :: nmsOf (cs.drop (i+1)))=_
       rw [Pl.dupGo]
       have hm:(nmsOf (cs.take i)).contains c.1=false:=by
        rw [Bool.eq_false_iff]
        intro h
        rw [List.contains_iff_mem] at h
        unfold nmsOf at h
        rw [List.mem_map] at h
        obtain ⟨d,hd,hdc⟩:=h
        obtain ⟨q,hq⟩:=List.mem_iff_getElem?.1 hd
        rw [List.getElem?_take] at hq
        split at hq
        ·exact HNj.out q d (by omega) hq hdc
        ·cases hq
       rw [hm,Bool.false_or]
       unfold nmsOf
       rw [List.map_append]
       rfl
      go_wp2_with fail
      go_roundw
      case rel=>exact ⟨i+1,q2,by omega,by go_num,rfl,HD2⟩
      case measure=>simp [intOf];omega
   ·have HDf:Hid (Pl.dup (nmsOf cs)=false):=by
     unfold Hid
     rw [HD.out,List.drop_of_length_le (by omega)]
     rfl
    have hb2:Below w1.heap.size w1 (w1.drewN q):=below_drewN (Below.refl _ _) q
    generalize w1.drewN q=w2 at *
    have hbx2:=bB hb2 hbz HBx.out
    have c2:=bC hbx2 0
    simp at c2
    have hbz2:=lB hbx2
    have hn2:=bB hb2 hnz HN.out
    have d1:=bC hn2 1
    have d2:=bC hn2 2
    simp at d1 d2
    have hnz2:=lB hn2
    have hz2':=hb2.size
    have HB2:=Z hb2
    by_cases h6:D.length=6
    ·have g6:(((List.length D:Nat):Int) == 6)=true:=by simp;omega
     have HP:=Z (HE6.out HDf.out h6 _ hb2)
     clear hb2 hbx2 hn2
     go_wp2_with fail
     exact HP.out
    ·have g6:(((List.length D:Nat):Int) == 6)=false:=by simp;omega
     have HOu:=Z (HOut.out HDf.out h6)
     have HOkk:=Z (HOk.out HOu.out)
     obtain ⟨i0,hi0,hz0,hz1,hz2⟩:=info_parts Tryz.infoRTab
     have H5:=Z (own_below hb2 (HX.out.own_box HBx.out).1)
     clear hb2 hbx2 hn2 h6
     generalize hO:Obj.cells #[.string ⟨s.table.toArray⟩,.slice ca cs.length cc,.slice none 0 0] 159=O
     generalize hO2:Obj.cells #[.pointer (some ⟨w2.heap.size,0,none⟩)] 154=O2
     have HB3:Hid (Below w1.heap.size w1 ((w2.alloc O).alloc O2).drew):=(((HB2.out.alloc (by omega) _).alloc (by simp;omega) _).drew)
     have HNb:Hid (((w2.alloc O).alloc O2).drew.heap[w2.heap.size]?=some O):=bA (blk_new _ _) _
     have HNw:Hid (∀ j u,([.pointer (some ⟨w2.heap.size,0,none⟩)]:List Value)[j]?=some u->((w2.alloc O).alloc O2).drew.cell? ((⟨w2.heap.size+1,0,none⟩:Addr).add j)=some u):=by
      subst hO2
      exact news2 w2 O [.pointer (some ⟨w2.heap.size,0,none⟩)] 154
     have HOn:Hid (∀ u ∈ ([.pointer (some ⟨w2.heap.size,0,none⟩)]:List Value),u.oneCell'=true):=by intro u hu;simp at hu;subst hu;rfl
     have HMx:Hid (D.length+1<=maxLen):=by unfold Hid maxLen;omega
     have HYx:Hid ((D.length+1)*8<=140737488355328):=by unfold Hid;omega
     have HZx:Hid (0<=((w2.alloc O).alloc O2).drew.heap.size):=Nat.zero_le _
     have HPush:Hid (∀ w4 v',w4.ownsRow 0 154 1 v' (D.length+1) (lay.map layPtr++[.pointer (some ⟨w2.heap.size,0,none⟩)])->((w2.alloc O).alloc O2).drew.grownBy w4 (Value.ownBlock (.slice ta D.length tc))->(∀ k,v'.ownBlock=some k->Value.ownBlock (.slice ta D.length tc)=some k\/((w2.alloc O).alloc O2).drew.heap.size<=k)->w4.heap[b]?=some (.cells #[.slice ta D.length tc] 105)/\Post (.returned (.int .i64 0)) (w4.setCell ⟨b,0,none⟩ v')):=by
      intro w4 v' h1 h2 h3
      subst hO
      obtain ⟨a1,a2⟩:=rdb_push (lo:=lo) HX.out HB3.out HNb.out hz2' HCv.out HFl.out HCl.out hlo HBx.out h1 h2 h3 HOkk.out
      exact ⟨a1,HYes.out _ _ _ _ HOu.out a2⟩
     clear HB3 HNb HYes HOk HOut
     subst hO
     subst hO2
     go_upto_region 14 with fail
     go_region_law (refine step_append_at rfl (.tmp 57) (.tmp 68) 103 rfl 0 154 i0 _ 1 8 Tryz.underlying103 hi0 hz0 hz1 hz2 rfl (by decide) _ _ _ (by simp [Act.eval,Act.put]) ((H5.out.alloc _).alloc _) ⟨w2.heap.size+1,0,none⟩ 1 1 [.pointer (some ⟨w2.heap.size,0,none⟩)] (by simp [Act.eval,Act.put]) rfl HNw.out HOn.out HMx.out HYx.out HZx.out ?_;intro v' w' hown' hg' hfr';obtain ⟨g',cap',rfl⟩:=own_succ hown';obtain ⟨hb2,hs2⟩:=HPush.out _ _ hown' hg' hfr';have c4:=bC hb2 0;simp at c4;have f4:=bF hb2 0;have hz4:=lB hb2;have HS2:=Z hs2;clear hs2 hb2 hown' hg' hfr')
     all_goals go_wp2_with fail
     all_goals exact HS2.out
end Go.Proofs.YtojdpjpldokjmaaGreatDoor
