/- The keeps' own: digits, number, pick. -/
import Derived.Test.YtojdpjpldokjmaaGreatDoorF02
import Derived.Test.YtojdpjpldokjmaaGreatDoorF01
import Derived.Test.YtojdpjpldokjmaaGreatDoorF07
import Derived.Test.YtojdpjpldokjmaaGreatDoorF06
set_option maxHeartbeats 60000000
set_option maxRecDepth 100000
namespace Go.Proofs.YtojdpjpldokjmaaGreatDoor
open Go.RowKit Go.Deep
set_option linter.unusedSimpArgs false
set_option linter.unusedVariables false
theorem cv1 (wx:World)(n:Int):(convert 83 9 (.slice (some ⟨wx.heap.size,0,none⟩) 1 1)).run Tryz.prog (wx.alloc (.cells #[.int .u8 n] 5))=.ok (.string ⟨#[UInt8.ofNat n.toNat]⟩) (wx.alloc (.cells #[.int .u8 n] 5)):=by
 have h:=run_convert_bytes_arg (P:=Tryz.prog) (wx.alloc (.cells #[.int .u8 n] 5)) 83 5 Tryz.underlying83 Tryz.underlying5 wx.heap.size 0 1 1 [n] rfl (by
  intro i hi
  have:i=0:=by omega
  subst this
  simp) 9 Tryz.underlying9
 rw [h]
 simp [strOfNums]
theorem cons_str (x:UInt8)(acc:List UInt8):(({ data:=#[x] }:ByteArray)++{ data:=acc.toArray })=⟨(x :: acc).toArray⟩:=by
 have:=ByteArray.mk_append_mk [x] acc
 rw [show (#[x]:Array UInt8)=[x].toArray from rfl,this];rfl
theorem dig_add (m:Nat):48+UInt8.ofNat (m % 10)=UInt8.ofNat (48+m % 10):=by
 rw [UInt8.ofNat_add];rfl
def Pl.pickK (c:Int)(n:Nat):Nat:=(if c<0 then (-(c+1)).toNat else c.toNat) % n
def tyOf (k:Int):TypeId:=if k=99 then 131 else if k=105 then 133 else if k=100 then 135 else if k=117 then 137 else 139
def PostT (w:World)(rb:Nat)(T:List Pl.Tok)(b:Bool)(spec:Option (Pl.St × List Pl.Tok))(e:Ending)(w':World):Prop :=
 Keeps rb w w'/\∃ v:Value,e=.returned v/\match spec with
  | some (s,r)=>(∃ n:Nat,v=.iface (tyOf s.kind) (.pointer (some ⟨n,0,none⟩))/\CSt w' rb w.heap.size s n)/\RC w' rb T r 0 b
  | none=>RC w' rb T [] 0 true
theorem CSt.base {w:World}{rb base base':Nat}{s:Pl.St}{n:Nat}(h:CSt w rb base s n)(hb:base'<=base):CSt w rb base' s n:=by
 obtain ⟨h0,h⟩:=h
 refine ⟨by omega,?_⟩
 split
 ·rename_i hk;rw [if_pos hk] at h
  obtain ⟨v,h1,h2⟩:=h;exact ⟨v,h1,h2.base hb⟩
 ·rename_i hk;rw [if_neg hk] at h
  split
  ·rename_i hk;rw [if_pos hk] at h
   obtain ⟨v,h1,h2⟩:=h;exact ⟨v,h1,h2.base hb⟩
  ·rename_i hk;rw [if_neg hk] at h
   split
   ·rename_i hk;rw [if_pos hk] at h;exact h
   ·rename_i hk;rw [if_neg hk] at h
    split
    ·rename_i hk;rw [if_pos hk] at h
     obtain ⟨u,v,h1,h2,h3⟩:=h;exact ⟨u,v,h1,h2.base hb,h3⟩
    ·rename_i hk;rw [if_neg hk] at h
     obtain ⟨u,x,v,o,h1,h2,h3,h4,h5⟩:=h
     refine ⟨u,x,v,o,h1,?_,h3.base hb,h4,h5.base hb⟩
     split
     ·rename_i ha;rw [if_pos ha] at h2;exact h2
     ·rename_i ha;rw [if_neg ha] at h2;exact h2.base hb
theorem CSt.keeps {w w':World}{rb base:Nat}{s:Pl.St}{n:Nat}(h:CSt w rb base s n)(hk:Keeps rb w w')(hb:rb<base):CSt w' rb base s n:=by
 obtain ⟨h0,h⟩:=h
 refine ⟨h0,?_⟩
 split
 ·rename_i hc;rw [if_pos hc] at h
  obtain ⟨v,h1,h2⟩:=h;exact ⟨v,hk.blk (by omega) h1,h2.keeps hk hb⟩
 ·rename_i hc;rw [if_neg hc] at h
  split
  ·rename_i hc;rw [if_pos hc] at h
   obtain ⟨v,h1,h2⟩:=h;exact ⟨v,hk.blk (by omega) h1,h2.keeps hk hb⟩
  ·rename_i hc;rw [if_neg hc] at h
   split
   ·rename_i hc;rw [if_pos hc] at h
    obtain ⟨v,h1,h2⟩:=h;exact ⟨v,hk.blk (by omega) h1,h2.keeps hk⟩
   ·rename_i hc;rw [if_neg hc] at h
    split
    ·rename_i hc;rw [if_pos hc] at h
     obtain ⟨u,v,h1,h2,h3⟩:=h;exact ⟨u,v,hk.blk (by omega) h1,h2.keeps hk hb,h3.keeps hk⟩
    ·rename_i hc;rw [if_neg hc] at h
     obtain ⟨u,x,v,o,h1,h2,h3,h4,h5⟩:=h
     refine ⟨u,x,v,o,hk.blk (by omega) h1,?_,h3.keeps hk hb,h4.keeps hk,h5.keeps hk hb⟩
     split
     ·rename_i ha;rw [if_pos ha] at h2;exact h2
     ·rename_i ha;rw [if_neg ha] at h2;exact h2.keeps hk hb
theorem kind_create {ts r:List Pl.Tok}{s:Pl.St}(h:Pl.pCreate ts=some (s,r)):s.kind=99:=by
 unfold Pl.pCreate at h
 repeat' (split at h)
 all_goals first
  | (cases h;done)
  | (cases h;rfl)
theorem kind_insert {ts r:List Pl.Tok}{s:Pl.St}(h:Pl.pInsert ts=some (s,r)):s.kind=105:=by
 unfold Pl.pInsert at h
 repeat' (split at h)
 all_goals first
  | (cases h;done)
  | (cases h;rfl)
theorem kind_delete {ts r:List Pl.Tok}{s:Pl.St}(h:Pl.pDelete ts=some (s,r)):s.kind=100:=by
 unfold Pl.pDelete at h
 repeat' (split at h)
 all_goals first
  | (cases h;done)
  | (cases h;rfl)
theorem kind_update {ts r:List Pl.Tok}{s:Pl.St}(h:Pl.pUpdate ts=some (s,r)):s.kind=117:=by
 unfold Pl.pUpdate at h
 repeat' (split at h)
 all_goals first
  | (cases h;done)
  | (cases h;rfl)
theorem kind_select {ts r:List Pl.Tok}{s:Pl.St}(h:Pl.pQuery ts=some (s,r)):s.kind=115:=by
 unfold Pl.pQuery at h
 split at h
 ·cases h
 ·rw [pFrom_eq] at h
  unfold cs2 at h
  split at h
  ·unfold cs3 at h
   split at h
   ·cases h
   ·unfold cs4 at h
    split at h
    ·cases h
    ·unfold cs5 at h
     split at h
     ·cases h
     ·unfold cs6 Pl.pLast at h
      split at h
      ·cases h
      ·cases h;rfl
  ·cases h
theorem PostS.stm {w w1:World}{rb:Nat}{T:List Pl.Tok}{b:Bool}{sp:Option (Pl.St × List Pl.Tok)}{n:Nat}{w':World}{k:Int}{ty:TypeId}(hk1:Keeps rb w w1)(hk:Keeps rb w1 w')(hp:match sp with
 | some (s,r)=>CSt w' rb w1.heap.size s n/\RC w' rb T r 0 b
 | none=>RC w' rb T [] 0 true) (hkind:∀ s r,sp=some (s,r)->s.kind=k) (hty:tyOf k=ty):PostT w rb T b sp (.returned (.iface ty (.pointer (some ⟨n,0,none⟩)))) w':=by
 refine ⟨hk1.trans hk,_,rfl,?_⟩
 cases sp with
 | none=>exact hp
 | some y =>
  obtain ⟨s,r⟩:=y
  refine ⟨⟨n,by rw [hkind _ _ rfl,hty],hp.1.base hk1.size⟩,hp.2⟩
theorem statementC (rb:Nat)(T ts:List Pl.Tok)(b:Bool)(w:World)(hR:RC w rb T ts 0 b)(hlim:∀ t ∈ T,t.k=2->0<=t.n) :
 Calls Tryz.prog 62 #[.pointer (some ⟨rb,0,none⟩)] w (PostT w rb T b (Pl.pStatement ts)):=by
 have HRR0:=Z hR
 have HKK0:=Z (Keeps.refl rb w)
 have hz:=hR.lt
 have HLM:=Z hlim
 clear hR hlim
 by_cases h20:(Pl.hd ts).k=20
 ·have HV:Hid (Pl.pStatement ts=Pl.pCreate ts.tail):=by unfold Hid Pl.pStatement;rw [if_pos h20]
  have hx20:=nxn h20
  go_enter Tryz.func62,Tryz.ntmps62
  have HT0:=Z (takeC 20 (by decide) rb T ts 0 b w HRR0.out)
  rw [hx20,(nx_yes (b:=b) hx20).2.2.2] at HT0
  go_wp2_with fail
  refine (U HT0).mono ?_
  rintro e w1 ⟨rfl,hrr,hkk⟩
  have HRR1:=Z hrr
  have HKK1:=Z (HKK0.out.trans hkk)
  clear hrr hkk HT0
  have HC:=Z (createC rb T ts.tail b w1 HRR1.out)
  go_wp2_with fail
  refine (U HC).mono ?_
  rintro e wz ⟨hkz,n,rfl,hpz⟩
  have HPZ:=Z hpz
  have HKZ:=Z hkz
  clear hpz hkz
  go_wp2_with fail
  go_ret
  rw [HV.out]
  exact PostS.stm HKK1.out HKZ.out HPZ.out (fun s r h=>kind_create h) rfl
 by_cases h22:(Pl.hd ts).k=22
 ·have HV:Hid (Pl.pStatement ts=Pl.pInsert ts.tail):=by unfold Hid Pl.pStatement;rw [if_neg h20,if_pos h22]
  have hx20:=nxf h20
  have hx22:=nxn h22
  go_enter Tryz.func62,Tryz.ntmps62
  have HT0:=Z (takeC 20 (by decide) rb T ts 0 b w HRR0.out)
  rw [hx20,(nx_no (b:=b) hx20).2.2.2] at HT0
  go_wp2_with fail
  refine (U HT0).mono ?_
  rintro e w1 ⟨rfl,hrr,hkk⟩
  have HRR1:=Z hrr
  have HKK1:=Z (HKK0.out.trans hkk)
  clear hrr hkk HT0
  have HT1:=Z (takeC 22 (by decide) rb T ts 0 b w1 HRR1.out)
  rw [hx22,(nx_yes (b:=b) hx22).2.2.2] at HT1
  go_wp2_with fail
  refine (U HT1).mono ?_
  rintro e w2 ⟨rfl,hrr,hkk⟩
  have HRR2:=Z hrr
  have HKK2:=Z (HKK1.out.trans hkk)
  clear hrr hkk HT1
  have HC:=Z (insertC rb T ts.tail b w2 HRR2.out)
  go_wp2_with fail
  refine (U HC).mono ?_
  rintro e wz ⟨hkz,n,rfl,hpz⟩
  have HPZ:=Z hpz
  have HKZ:=Z hkz
  clear hpz hkz
  go_wp2_with fail
  go_ret
  rw [HV.out]
  exact PostS.stm HKK2.out HKZ.out HPZ.out (fun s r h=>kind_insert h) rfl
 by_cases h25:(Pl.hd ts).k=25
 ·have HV:Hid (Pl.pStatement ts=Pl.pDelete ts.tail):=by unfold Hid Pl.pStatement;rw [if_neg h20,if_neg h22,if_pos h25]
  have hx20:=nxf h20
  have hx22:=nxf h22
  have hx25:=nxn h25
  go_enter Tryz.func62,Tryz.ntmps62
  have HT0:=Z (takeC 20 (by decide) rb T ts 0 b w HRR0.out)
  rw [hx20,(nx_no (b:=b) hx20).2.2.2] at HT0
  go_wp2_with fail
  refine (U HT0).mono ?_
  rintro e w1 ⟨rfl,hrr,hkk⟩
  have HRR1:=Z hrr
  have HKK1:=Z (HKK0.out.trans hkk)
  clear hrr hkk HT0
  have HT1:=Z (takeC 22 (by decide) rb T ts 0 b w1 HRR1.out)
  rw [hx22,(nx_no (b:=b) hx22).2.2.2] at HT1
  go_wp2_with fail
  refine (U HT1).mono ?_
  rintro e w2 ⟨rfl,hrr,hkk⟩
  have HRR2:=Z hrr
  have HKK2:=Z (HKK1.out.trans hkk)
  clear hrr hkk HT1
  have HT2:=Z (takeC 25 (by decide) rb T ts 0 b w2 HRR2.out)
  rw [hx25,(nx_yes (b:=b) hx25).2.2.2] at HT2
  go_wp2_with fail
  refine (U HT2).mono ?_
  rintro e w3 ⟨rfl,hrr,hkk⟩
  have HRR3:=Z hrr
  have HKK3:=Z (HKK2.out.trans hkk)
  clear hrr hkk HT2
  have HC:=Z (deleteC rb T ts.tail b w3 HRR3.out)
  go_wp2_with fail
  refine (U HC).mono ?_
  rintro e wz ⟨hkz,n,rfl,hpz⟩
  have HPZ:=Z hpz
  have HKZ:=Z hkz
  clear hpz hkz
  go_wp2_with fail
  go_ret
  rw [HV.out]
  exact PostS.stm HKK3.out HKZ.out HPZ.out (fun s r h=>kind_delete h) rfl
 by_cases h28:(Pl.hd ts).k=28
 ·have HV:Hid (Pl.pStatement ts=Pl.pUpdate ts.tail):=by unfold Hid Pl.pStatement;rw [if_neg h20,if_neg h22,if_neg h25,if_pos h28]
  have hx20:=nxf h20
  have hx22:=nxf h22
  have hx25:=nxf h25
  have hx28:=nxn h28
  go_enter Tryz.func62,Tryz.ntmps62
  have HT0:=Z (takeC 20 (by decide) rb T ts 0 b w HRR0.out)
  rw [hx20,(nx_no (b:=b) hx20).2.2.2] at HT0
  go_wp2_with fail
  refine (U HT0).mono ?_
  rintro e w1 ⟨rfl,hrr,hkk⟩
  have HRR1:=Z hrr
  have HKK1:=Z (HKK0.out.trans hkk)
  clear hrr hkk HT0
  have HT1:=Z (takeC 22 (by decide) rb T ts 0 b w1 HRR1.out)
  rw [hx22,(nx_no (b:=b) hx22).2.2.2] at HT1
  go_wp2_with fail
  refine (U HT1).mono ?_
  rintro e w2 ⟨rfl,hrr,hkk⟩
  have HRR2:=Z hrr
  have HKK2:=Z (HKK1.out.trans hkk)
  clear hrr hkk HT1
  have HT2:=Z (takeC 25 (by decide) rb T ts 0 b w2 HRR2.out)
  rw [hx25,(nx_no (b:=b) hx25).2.2.2] at HT2
  go_wp2_with fail
  refine (U HT2).mono ?_
  rintro e w3 ⟨rfl,hrr,hkk⟩
  have HRR3:=Z hrr
  have HKK3:=Z (HKK2.out.trans hkk)
  clear hrr hkk HT2
  have HT3:=Z (takeC 28 (by decide) rb T ts 0 b w3 HRR3.out)
  rw [hx28,(nx_yes (b:=b) hx28).2.2.2] at HT3
  go_wp2_with fail
  refine (U HT3).mono ?_
  rintro e w4 ⟨rfl,hrr,hkk⟩
  have HRR4:=Z hrr
  have HKK4:=Z (HKK3.out.trans hkk)
  clear hrr hkk HT3
  have HC:=Z (updateC rb T ts.tail b w4 HRR4.out)
  go_wp2_with fail
  refine (U HC).mono ?_
  rintro e wz ⟨hkz,n,rfl,hpz⟩
  have HPZ:=Z hpz
  have HKZ:=Z hkz
  clear hpz hkz
  go_wp2_with fail
  go_ret
  rw [HV.out]
  exact PostS.stm HKK4.out HKZ.out HPZ.out (fun s r h=>kind_update h) rfl
 by_cases h30:(Pl.hd ts).k=30
 ·have HV:Hid (Pl.pStatement ts=Pl.pQuery ts.tail):=by unfold Hid Pl.pStatement;rw [if_neg h20,if_neg h22,if_neg h25,if_neg h28,if_pos h30]
  have hx20:=nxf h20
  have hx22:=nxf h22
  have hx25:=nxf h25
  have hx28:=nxf h28
  have hx30:=nxn h30
  go_enter Tryz.func62,Tryz.ntmps62
  have HT0:=Z (takeC 20 (by decide) rb T ts 0 b w HRR0.out)
  rw [hx20,(nx_no (b:=b) hx20).2.2.2] at HT0
  go_wp2_with fail
  refine (U HT0).mono ?_
  rintro e w1 ⟨rfl,hrr,hkk⟩
  have HRR1:=Z hrr
  have HKK1:=Z (HKK0.out.trans hkk)
  clear hrr hkk HT0
  have HT1:=Z (takeC 22 (by decide) rb T ts 0 b w1 HRR1.out)
  rw [hx22,(nx_no (b:=b) hx22).2.2.2] at HT1
  go_wp2_with fail
  refine (U HT1).mono ?_
  rintro e w2 ⟨rfl,hrr,hkk⟩
  have HRR2:=Z hrr
  have HKK2:=Z (HKK1.out.trans hkk)
  clear hrr hkk HT1
  have HT2:=Z (takeC 25 (by decide) rb T ts 0 b w2 HRR2.out)
  rw [hx25,(nx_no (b:=b) hx25).2.2.2] at HT2
  go_wp2_with fail
  refine (U HT2).mono ?_
  rintro e w3 ⟨rfl,hrr,hkk⟩
  have HRR3:=Z hrr
  have HKK3:=Z (HKK2.out.trans hkk)
  clear hrr hkk HT2
  have HT3:=Z (takeC 28 (by decide) rb T ts 0 b w3 HRR3.out)
  rw [hx28,(nx_no (b:=b) hx28).2.2.2] at HT3
  go_wp2_with fail
  refine (U HT3).mono ?_
  rintro e w4 ⟨rfl,hrr,hkk⟩
  have HRR4:=Z hrr
  have HKK4:=Z (HKK3.out.trans hkk)
  clear hrr hkk HT3
  have HT4:=Z (takeC 30 (by decide) rb T ts 0 b w4 HRR4.out)
  rw [hx30,(nx_yes (b:=b) hx30).2.2.2] at HT4
  go_wp2_with fail
  refine (U HT4).mono ?_
  rintro e w5 ⟨rfl,hrr,hkk⟩
  have HRR5:=Z hrr
  have HKK5:=Z (HKK4.out.trans hkk)
  clear hrr hkk HT4
  have HC:=Z (selectionC rb T ts.tail b w5 HRR5.out HLM.out)
  go_wp2_with fail
  refine (U HC).mono ?_
  rintro e wz ⟨hkz,n,rfl,hpz⟩
  have HPZ:=Z hpz
  have HKZ:=Z hkz
  clear hpz hkz
  go_wp2_with fail
  go_ret
  rw [HV.out]
  exact PostS.stm HKK5.out HKZ.out HPZ.out (fun s r h=>kind_select h) rfl
 have HV:Hid (Pl.pStatement ts=none):=by unfold Hid Pl.pStatement;rw [if_neg h20,if_neg h22,if_neg h25,if_neg h28,if_neg h30]
 have hx20:=nxf h20
 have hx22:=nxf h22
 have hx25:=nxf h25
 have hx28:=nxf h28
 have hx30:=nxf h30
 go_enter Tryz.func62,Tryz.ntmps62
 have HT0:=Z (takeC 20 (by decide) rb T ts 0 b w HRR0.out)
 rw [hx20,(nx_no (b:=b) hx20).2.2.2] at HT0
 go_wp2_with fail
 refine (U HT0).mono ?_
 rintro e w1 ⟨rfl,hrr,hkk⟩
 have HRR1:=Z hrr
 have HKK1:=Z (HKK0.out.trans hkk)
 clear hrr hkk HT0
 have HT1:=Z (takeC 22 (by decide) rb T ts 0 b w1 HRR1.out)
 rw [hx22,(nx_no (b:=b) hx22).2.2.2] at HT1
 go_wp2_with fail
 refine (U HT1).mono ?_
 rintro e w2 ⟨rfl,hrr,hkk⟩
 have HRR2:=Z hrr
 have HKK2:=Z (HKK1.out.trans hkk)
 clear hrr hkk HT1
 have HT2:=Z (takeC 25 (by decide) rb T ts 0 b w2 HRR2.out)
 rw [hx25,(nx_no (b:=b) hx25).2.2.2] at HT2
 go_wp2_with fail
 refine (U HT2).mono ?_
 rintro e w3 ⟨rfl,hrr,hkk⟩
 have HRR3:=Z hrr
 have HKK3:=Z (HKK2.out.trans hkk)
 clear hrr hkk HT2
 have HT3:=Z (takeC 28 (by decide) rb T ts 0 b w3 HRR3.out)
 rw [hx28,(nx_no (b:=b) hx28).2.2.2] at HT3
 go_wp2_with fail
 refine (U HT3).mono ?_
 rintro e w4 ⟨rfl,hrr,hkk⟩
 have HRR4:=Z hrr
 have HKK4:=Z (HKK3.out.trans hkk)
 clear hrr hkk HT3
 have HT4:=Z (takeC 30 (by decide) rb T ts 0 b w4 HRR4.out)
 rw [hx30,(nx_no (b:=b) hx30).2.2.2] at HT4
 go_wp2_with fail
 refine (U HT4).mono ?_
 rintro e w5 ⟨rfl,hrr,hkk⟩
 have HRR5:=Z hrr
 have HKK5:=Z (HKK4.out.trans hkk)
 clear hrr hkk HT4
 go_wp2_with fail
 refine (failC rb T ts 0 b _ HRR5.out).mono ?_
 rintro e wz ⟨rfl,hrz,hkz⟩
 go_wp2_with fail
 go_ret
 exact ⟨HKK5.out.trans hkz,_,rfl,by rw [HV.out];exact hrz⟩
def PostRead (w:World)(l:List UInt8)(e:Ending)(w':World):Prop :=
 Below w.heap.size w w'/\match Pl.pParse l with
  | some s=>∃ rb n:Nat,e=.returned (.tuple #[.iface (tyOf s.kind) (.pointer (some ⟨n,0,none⟩)),.bool true])/\w.heap.size<=rb/\CSt w' rb w.heap.size s n
  | none=>e=.returned (.tuple #[.nilIface,.bool false])
theorem tokAt_own {w:World}{rb base:Nat}{v:Value}{T:List Pl.Tok}(h:w.ownsRow base 180 3 v T.length (tokCells T))(hl:T.length<=1048576)(hrb:w.heap.size<=rb):TokAt w rb v T:=by
 refine ⟨hl,?_⟩
 rcases h.2 with ⟨h1,h2⟩|⟨g,cap,cur,hv,hg,hh,h3,h4,h5,h6⟩
 ·exact .inl ⟨h1,List.length_eq_zero_iff.1 h2⟩
 ·exact .inr ⟨g,cap,cur,hv,by have:=lB hh;omega,hh,h6⟩
theorem TokAt.alloc {w:World}{rb:Nat}{v:Value}{T:List Pl.Tok}(h:TokAt w rb v T)(o:Obj):TokAt (w.alloc o) rb v T:=by
 obtain ⟨h0,h⟩:=h
 refine ⟨h0,?_⟩
 rcases h with h|⟨g,cap,cur,h1,h2,h3,h4⟩
 ·exact .inl h
 ·exact .inr ⟨g,cap,cur,h1,h2,bA h3 _,h4⟩
theorem keeps_below {w w1 w':World}{rb:Nat}(hb:Below w.heap.size w w1)(hk:Keeps rb w1 w')(hrb:w.heap.size<=rb):Below w.heap.size w w' :=
 hb.trans ⟨hk.os,hk.tape,hk.output,hk.size,fun i hi=>hk.block i (by have:=hb.size;omega) (by omega)⟩
theorem readC (X:LexLib)(s:ByteArray)(w:World)(hs:s.size<=1048576)(hg:SpellAt w)(he:ErrAt w) :
 Calls Tryz.prog 35 #[.string s] w (PostRead w s.data.toList):=by
 by_cases h600:600<s.size
 ·have HV:Hid (Pl.pParse s.data.toList=none):=by unfold Hid Pl.pParse;rw [if_pos (by simpa using h600)]
  clear X hg he
  go_enter Tryz.func35,Tryz.ntmps35
  go_wp2_with fail
  exact bodyPost_ret (v:=.tuple #[.nilIface,.bool false]) (by simp [results,Tryz.results35,go_sem]) rfl ⟨Below.refl _ _,by rw [HV.out]⟩
 ·have HV:Hid (Pl.pParse s.data.toList=Pl.pEnd (Pl.pStatement (Pl.toks s.data.toList))):=by unfold Hid Pl.pParse;rw [if_neg (by simpa using h600)]
  have HC:=Z (cut_any X s w hs hg he)
  have hlen:s.data.toList.length<=600:=by simpa using h600
  have HTO:=Z (Pl.toks_ok _ s.data.toList (Nat.lt_succ_self _))
  have HTL:=Z (Pl.toks_length _ s.data.toList (Nat.lt_succ_self _))
  have HB:=Z (fun h=>Pl.parse_bad (l:=s.data.toList) h)
  clear X hg he
  go_enter Tryz.func35,Tryz.ntmps35
  go_wp2_with fail
  refine (U HC).mono ?_
  rintro e w1 ⟨hb1,hp⟩
  rcases hp with ⟨hnb,a,n,c,rfl,hown⟩|⟨hnb,rfl⟩
  ·have HB1:=Z hb1
   have hz1:=hb1.size
   have htl:=HTL.out
   generalize Pl.toks s.data.toList=T at *
   have htk:=tokAt_own (rb:=w1.heap.size) hown (by omega) (Nat.le_refl _)
   have hR:RC (w1.alloc (.cells #[.slice a n c,.int .i64 0,.int .i64 0,.bool false] 126)) w1.heap.size T T 0 false :=
    ⟨_,0,blk_new _ _,by omega,rfl,fun h=>(by cases h),htk.alloc _⟩
   have HS:=Z (statementC w1.heap.size T T false _ hR (fun t ht hk=>((HTO.out t ht).1 hk).1))
   clear hb1 hown htk hR HC hnb
   go_wp2_with fail
   refine (U HS).mono ?_
   rintro e w2 ⟨hk2,v,rfl,hp2⟩
   have HS2:Hid (∃ t2 b2,RC w2 w1.heap.size T t2 0 b2/\((b2=false/\∃ st,Pl.pStatement T=some (st,t2)/\∃ n:Nat,v=.iface (tyOf st.kind) (.pointer (some ⟨n,0,none⟩))/\CSt w2 w1.heap.size (w1.heap.size+1) st n)\/(b2=true/\t2=[]/\Pl.pStatement T=none))):=by
    unfold Hid
    cases hv:Pl.pStatement T with
    | none=>rw [hv] at hp2;exact ⟨[],true,hp2,.inr ⟨rfl,rfl,rfl⟩⟩
    | some y =>
     obtain ⟨st,r⟩:=y
     rw [hv] at hp2
     obtain ⟨⟨n,h1,h2⟩,h3⟩:=hp2
     exact ⟨r,false,h3,.inl ⟨rfl,st,rfl,n,h1,by simpa using h2⟩⟩
   obtain ⟨t2,b2,hr2,hc2⟩:=HS2.out
   have HC2:=Z hc2
   have HT:=Z (takeC 11 (by decide) w1.heap.size T t2 0 b2 w2 hr2)
   have HK2:=Z (((Keeps.refl w1.heap.size w1).alloc (.cells #[.slice a n c,.int .i64 0,.int .i64 0,.bool false] 126)).trans hk2)
   clear hk2 hp2 hr2 hc2 HS HS2
   go_wp2_with fail
   refine (U HT).mono ?_
   rintro e w3 ⟨rfl,hr3,hk3⟩
   have HK3:=Z (HK2.out.trans hk3)
   have HK23:=Z hk3
   obtain ⟨r2,r3,rf⟩:=hr3.c
   have hz3:=hr3.lt
   have HPk:=Z (peekC w1.heap.size T (tl t2 11) 0 b2 w3 hr3)
   have HSemi:Hid (tl t2 11=Pl.pSemi t2):=by unfold Hid tl hk Pl.pSemi;simp
   clear hk3 hr3 HT HK2
   have HBW:Hid (∀ wz,Keeps w1.heap.size w3 wz->Below w.heap.size w wz):=fun wz hz=>keeps_below HB1.out (HK3.out.trans hz) hz1
   cases b2 with
   | true =>
    have HN:Hid (Pl.pParse s.data.toList=none):=by
     unfold Hid
     rcases HC2.out with ⟨h,_⟩|⟨_,_,h⟩
     ·cases h
     ·rw [HV.out,h];rfl
    go_wp2_with fail
    exact bodyPost_ret (v:=.tuple #[.nilIface,.bool false]) (by simp [results,Tryz.results35,go_sem]) rfl ⟨HBW.out _ (Keeps.refl _ _),by rw [HN.out]⟩
   | false =>
    by_cases h0:(Pl.hd (tl t2 11)).k=0
    ·rw [h0] at HPk
     go_wp2_with fail
     refine (U HPk).mono ?_
     rintro e w4 ⟨rfl,hr4,hk4⟩
     have HK4:=Z hk4
     clear hr4 hk4 HPk
     go_wp2_with fail
     refine bodyPost_ret (v:=.tuple #[v,.bool true]) (by simp [results,Tryz.results35,go_sem]) rfl ⟨HBW.out _ HK4.out,?_⟩
     rcases HC2.out with ⟨_,st,h1,n',h2,h3⟩|⟨h,_⟩
     ·have e:Pl.pParse s.data.toList=some st:=by
       rw [HV.out,h1]
       simp only [Pl.pEnd]
       rw [<- HSemi.out,if_pos h0]
      rw [e]
      exact ⟨w1.heap.size,n',by rw [h2],hz1,(h3.keeps (HK23.out.trans HK4.out) (by omega)).base (by omega)⟩
     ·cases h
    ·have HN:Hid (Pl.pParse s.data.toList=none):=by
      unfold Hid
      rcases HC2.out with ⟨_,st,h1,_⟩|⟨h,_⟩
      ·rw [HV.out,h1]
       simp only [Pl.pEnd]
       rw [<- HSemi.out,if_neg h0]
      ·cases h
     have g0:(((Pl.hd (tl t2 11)).k:Int) != 0)=true:=by simp;omega
     go_wp2_with fail
     refine (U HPk).mono ?_
     rintro e w4 ⟨rfl,hr4,hk4⟩
     have HK4:=Z hk4
     clear hr4 hk4 HPk
     go_wp2_with fail
     exact bodyPost_ret (v:=.tuple #[.nilIface,.bool false]) (by simp [results,Tryz.results35,go_sem]) rfl ⟨HBW.out _ HK4.out,by rw [HN.out]⟩
  ·have HN:Hid (Pl.pParse s.data.toList=none):=by unfold Hid;rw [HV.out,HB.out hnb]
   have HB1:=Z hb1
   clear hb1 hnb
   go_wp2_with fail
   exact bodyPost_ret (v:=.tuple #[.nilIface,.bool false]) (by simp [results,Tryz.results35,go_sem]) rfl ⟨HB1.out,by rw [HN.out]⟩
def vV (v:Pl.V):Value:=.agg #[.int .i64 v.kind,.int .i64 v.n,.string ⟨v.s.toArray⟩]
theorem vV_eq (v:Pl.V):vV v=.agg #[.int .i64 v.kind,.int .i64 v.n,.string ⟨v.s.toArray⟩]:=rfl
def outV:Pl.Out Pl.V->Value
 | .ok v=>.tuple #[vV v,.int .i64 0]
 | .error e=>.tuple #[vV Pl.nul,.int .i64 (e:Nat)]
def inR (n:Int):Prop:=-9223372036854775808<=n/\n<=9223372036854775807
theorem wrap_in (n:Int)(h : -9223372036854775808<=n/\n<=9223372036854775807):wrap64 n=n:=by unfold wrap64;omega
theorem wrap_ex (n:Int):∃ k:Int,wrap64 n=n - k*18446744073709551616/\inR (wrap64 n):=by
 refine ⟨(n+9223372036854775808) / 18446744073709551616,?_,?_⟩
 ·unfold wrap64;omega
 ·unfold inR wrap64;omega
theorem tdiv_abs (m b:Int):(m.tdiv b).natAbs<=m.natAbs:=by
 rw [Int.natAbs_tdiv];exact Nat.div_le_self _ _
theorem mul_fits {a b:Int}(ha:inR a)(hb:inR b)(h0:b≠0)(h1:b≠-1):(wrap64 ((wrap64 (a*b)).tdiv b) == a)=decide (-9223372036854775808<=a*b/\a*b<=9223372036854775807):=by
 obtain ⟨k,hk,hin⟩:=wrap_ex (a*b)
 have hq:wrap64 ((wrap64 (a*b)).tdiv b)=(wrap64 (a*b)).tdiv b:=by
  have hle:=tdiv_abs (wrap64 (a*b)) b
  apply wrap_in
  unfold inR at hin
  rcases Int.lt_or_le (wrap64 (a*b)) (-9223372036854775807) with hm|hm
  ·have e:wrap64 (a*b)=-9223372036854775808:=by omega
   rw [e] at hle ⊢
   have h2:((-9223372036854775808:Int).tdiv b).natAbs<=4611686018427387904\/b=1:=by
    by_cases hb1:b=1
    ·exact .inr hb1
    ·left
     rw [Int.natAbs_tdiv]
     have:2<=b.natAbs:=by omega
     exact Nat.le_trans (Nat.div_le_div_left this (by decide)) (by decide)
   rcases h2 with h2|rfl
   ·omega
   ·rw [Int.tdiv_one];omega
  ·omega
 rw [hq]
 have hdm:=Int.mul_tdiv_add_tmod (wrap64 (a*b)) b
 have hlt:(Int.tmod (wrap64 (a*b)) b).natAbs<b.natAbs:=by rw [Int.natAbs_tmod];exact Nat.mod_lt _ (by omega)
 unfold inR at *
 rw [Bool.eq_iff_iff]
 simp only [beq_iff_eq,decide_eq_true_eq]
 constructor
 ·intro he
  rw [he,Int.mul_comm b a] at hdm
  have hk0:k=0:=by omega
  subst hk0
  omega
 ·intro hr
  rw [wrap_in _ hr,Int.mul_tdiv_cancel _ h0]
theorem add_fits {a b:Int}(ha:inR a)(hb:inR b):(decide (a<wrap64 (a+b)) == decide (0<b))=decide (-9223372036854775808<=a+b/\a+b<=9223372036854775807):=by
 unfold inR at *
 unfold wrap64
 rw [Bool.eq_iff_iff]
 simp only [beq_iff_eq,decide_eq_decide,decide_eq_true_eq]
 omega
theorem sub_fits {a b:Int}(ha:inR a)(hb:inR b):(decide (wrap64 (a - b)<a) == decide (0<b))=decide (-9223372036854775808<=a - b/\a - b<=9223372036854775807):=by
 unfold inR at *
 unfold wrap64
 rw [Bool.eq_iff_iff]
 simp only [beq_iff_eq,decide_eq_decide,decide_eq_true_eq]
 omega
def rgV (n:Int)(f:Bool):Value:=if f=true then .tuple #[.agg #[.int .i64 1,.int .i64 n,.string ⟨#[]⟩],.int .i64 0] else .tuple #[.agg #[.int .i64 0,.int .i64 0,.string ⟨#[]⟩],.int .i64 4]
theorem rangedM (n:Int)(f:Bool)(w:World):Calls Tryz.prog 290 #[.int .i64 n,.bool f] w fun e w'=>e=.returned (rgV n f)/\Below w.heap.size w w':=by
 cases f
 ·go_enter Tryz.func290,Tryz.ntmps290
  go_wp2_with fail
  exact bodyPost_ret (v:=rgV n false) (by simp [results,Tryz.results290,go_sem,rgV]) rfl ⟨rfl,(Below.refl _ _).alloc (Nat.le_refl _) _⟩
 ·go_enter Tryz.func290,Tryz.ntmps290
  go_wp2_with fail
  exact bodyPost_ret (v:=rgV n true) (by simp [results,Tryz.results290,go_sem,rgV]) rfl ⟨rfl,(Below.refl _ _).alloc (Nat.le_refl _) _⟩
theorem fitsM (a b:Int)(ha:inR a)(hb:inR b)(w:World):Calls Tryz.prog 319 #[.int .i64 a,.int .i64 b] w fun e w'=>e=.returned (.bool (decide (-9223372036854775808<=a*b/\a*b<=9223372036854775807)))/\w'=w:=by
 obtain ⟨ha1,ha2⟩:=ha
 obtain ⟨hb1,hb2⟩:=hb
 have HA:Hid (inR a):=⟨ha1,ha2⟩
 have HB:Hid (inR b):=⟨hb1,hb2⟩
 go_enter Tryz.func319,Tryz.ntmps319
 go_wp2_with fail
 all_goals
  go_ret
  refine ⟨ret_bool ?_,rfl⟩
 ·have h:b=-1:=by simpa using ‹(b == -1)=true›
  subst h
  rw [Bool.eq_iff_iff]
  simp
  omega
 ·subst ‹b=0›
  simp
 ·have h1:b≠-1:=by simpa using ‹(b == -1)=false›
  have h0:¬ b=0:=‹¬ b=0›
  rw [mul_fits HA.out HB.out h0 h1]
  simp [h0]
theorem div_fits {a b:Int}(ha:inR a)(hb:inR b)(h0:b≠0):(a != -9223372036854775808 || b != -1)=decide (-9223372036854775808<=a.tdiv b/\a.tdiv b<=9223372036854775807):=by
 unfold inR at *
 have hle:=tdiv_abs a b
 rw [Bool.eq_iff_iff]
 simp only [Bool.or_eq_true,bne_iff_ne,decide_eq_true_eq]
 constructor
 ·intro h
  by_cases hm:a=-9223372036854775808
  ·subst hm
   have hb1:b≠-1:=by rcases h with h|h;exact absurd rfl h;exact h
   by_cases hb2:b=1
   ·subst hb2;rw [Int.tdiv_one];omega
   ·have h2:((-9223372036854775808:Int).tdiv b).natAbs<=4611686018427387904:=by
     rw [Int.natAbs_tdiv]
     have:2<=b.natAbs:=by omega
     exact Nat.le_trans (Nat.div_le_div_left this (by decide)) (by decide)
    omega
  ·omega
 ·intro h
  by_cases hm:a=-9223372036854775808
  ·right
   intro hb1
   subst hm hb1
   rw [Int.tdiv_neg,Int.tdiv_one] at h
   omega
  ·exact .inl hm
theorem rgV_ranged (n:Int):rgV (wrap64 n) (decide (-9223372036854775808<=n/\n<=9223372036854775807))=outV (Pl.ranged n):=by
 unfold rgV Pl.ranged outV
 by_cases h : -9223372036854775808<=n/\n<=9223372036854775807
 ·rw [wrap_in n h];simp [h,vV]
 ·simp [h,vV,Pl.nul]
theorem outV_form (o:Pl.Out Pl.V):∃ a m l:Int,∃ s:ByteArray,outV o=.tuple #[.agg #[.int .i64 a,.int .i64 m,.string s],.int .i64 l]:=by
 cases o
 ·exact ⟨_,_,_,_,rfl⟩
 ·exact ⟨_,_,_,_,rfl⟩
theorem reckonM (op:Nat)(h6:6<=op)(h10:op<=10)(a b:Int)(ha:inR a)(hb:inR b)(w:World):Calls Tryz.prog 292 #[.int .i64 ((op+2:Nat):Int),.int .i64 a,.int .i64 b] w fun e w'=>e=.returned (outV (Pl.reckon op a b))/\Below w.heap.size w w':=by
 have HA:=Z ha
 have HB:=Z hb
 have ho:op=6\/op=7\/op=8\/op=9\/op=10:=by omega
 clear h6 h10
 rcases ho with rfl|rfl|rfl|rfl|rfl
 ·have HV:Hid (rgV (wrap64 (a+b)) (decide (a<wrap64 (a+b)) == decide (0<b))=outV (Pl.reckon 6 a b)):=by
   unfold Hid;rw [add_fits ha hb,rgV_ranged];rfl
  clear ha hb
  go_enter Tryz.func292,Tryz.ntmps292
  go_wp2_with fail
  refine (rangedM _ _ _).mono ?_
  rw [HV.out]
  obtain ⟨x,m,l,s,hf⟩:=outV_form (Pl.reckon 6 a b)
  rw [hf]
  have HF:=Z hf
  clear hf
  rintro e w2 ⟨rfl,hbb⟩
  obtain ⟨c1,f1⟩:=bcell hbb
  go_wp2_with fail
  refine bodyPost_ret (v:=.tuple #[.agg #[.int .i64 x,.int .i64 m,.string s],.int .i64 l]) ?_ rfl ⟨by rw [HF.out],below_box (((Below.refl _ _).alloc (Nat.le_refl _) _).trans (hbb.mono (by simp))) _ _ _⟩
  simp [results,Tryz.results292,go_sem,c1]
 ·have HV:Hid (rgV (wrap64 (a - b)) (decide (wrap64 (a - b)<a) == decide (0<b))=outV (Pl.reckon 7 a b)):=by
   unfold Hid;rw [sub_fits ha hb,rgV_ranged];rfl
  clear ha hb
  go_enter Tryz.func292,Tryz.ntmps292
  go_wp2_with fail
  refine (rangedM _ _ _).mono ?_
  rw [HV.out]
  obtain ⟨x,m,l,s,hf⟩:=outV_form (Pl.reckon 7 a b)
  rw [hf]
  have HF:=Z hf
  clear hf
  rintro e w2 ⟨rfl,hbb⟩
  obtain ⟨c1,f1⟩:=bcell hbb
  go_wp2_with fail
  refine bodyPost_ret (v:=.tuple #[.agg #[.int .i64 x,.int .i64 m,.string s],.int .i64 l]) ?_ rfl ⟨by rw [HF.out],below_box (((Below.refl _ _).alloc (Nat.le_refl _) _).trans (hbb.mono (by simp))) _ _ _⟩
  simp [results,Tryz.results292,go_sem,c1]
 ·have HV:Hid (rgV (wrap64 (a*b)) (decide (-9223372036854775808<=a*b/\a*b<=9223372036854775807))=outV (Pl.reckon 8 a b)):=by
   unfold Hid;rw [rgV_ranged];rfl
  have HFt:=Z (fitsM a b ha hb)
  generalize decide (-9223372036854775808<=a*b/\a*b<=9223372036854775807)=f at HV HFt
  clear ha hb
  go_enter Tryz.func292,Tryz.ntmps292
  go_wp2_with fail
  refine (U HFt _).mono ?_
  rintro e w1 ⟨rfl,rfl⟩
  go_wp2_with fail
  refine (rangedM _ _ _).mono ?_
  rw [HV.out]
  obtain ⟨x,m,l,s,hf⟩:=outV_form (Pl.reckon 8 a b)
  rw [hf]
  have HF:=Z hf
  clear hf
  rintro e w2 ⟨rfl,hbb⟩
  obtain ⟨c1,f1⟩:=bcell hbb
  go_wp2_with fail
  refine bodyPost_ret (v:=.tuple #[.agg #[.int .i64 x,.int .i64 m,.string s],.int .i64 l]) ?_ rfl ⟨by rw [HF.out],below_box (((Below.refl _ _).alloc (Nat.le_refl _) _).trans (hbb.mono (by simp))) _ _ _⟩
  simp [results,Tryz.results292,go_sem,c1]
 ·skip
  by_cases h0:b=0
  ·subst h0
   clear ha hb
   go_enter Tryz.func292,Tryz.ntmps292
   go_wp2_with fail
   refine bodyPost_ret (v:=.tuple #[.agg #[.int .i64 0,.int .i64 0,.string ⟨#[]⟩],.int .i64 5]) ?_ rfl ⟨rfl,(Below.refl _ _).alloc (Nat.le_refl _) _⟩
   simp [results,Tryz.results292,go_sem]
  have h0':(b == 0)=false:=by simpa using h0
  have HV:Hid (rgV (wrap64 (a.tdiv b)) (a != -9223372036854775808 || b != -1)=outV (Pl.reckon 9 a b)):=by
   unfold Hid
   rw [div_fits ha hb h0,rgV_ranged]
   unfold Pl.reckon
   rw [if_neg (by decide),if_neg (by decide),if_neg (by decide),if_neg h0,if_neg (by decide)]
  clear ha hb
  by_cases hm:a=-9223372036854775808
  ·have g1:(a != -9223372036854775808)=false:=by simp [hm]
   rw [g1,Bool.false_or] at HV
   clear hm
   go_enter Tryz.func292,Tryz.ntmps292
   go_wp2_with fail
   refine (rangedM _ _ _).mono ?_
   rw [HV.out]
   obtain ⟨x,m,l,s,hf⟩:=outV_form (Pl.reckon 9 a b)
   rw [hf]
   have HF:=Z hf
   clear hf
   rintro e w2 ⟨rfl,hbb⟩
   obtain ⟨c1,f1⟩:=bcell hbb
   go_wp2_with fail
   refine bodyPost_ret (v:=.tuple #[.agg #[.int .i64 x,.int .i64 m,.string s],.int .i64 l]) ?_ rfl ⟨by rw [HF.out],below_box (((Below.refl _ _).alloc (Nat.le_refl _) _).trans (hbb.mono (by simp))) _ _ _⟩
   simp [results,Tryz.results292,go_sem,c1]
  ·have g1:(a != -9223372036854775808)=true:=by simp [hm]
   rw [g1,Bool.true_or] at HV
   clear hm
   go_enter Tryz.func292,Tryz.ntmps292
   go_wp2_with fail
   refine (rangedM _ _ _).mono ?_
   rw [HV.out]
   obtain ⟨x,m,l,s,hf⟩:=outV_form (Pl.reckon 9 a b)
   rw [hf]
   have HF:=Z hf
   clear hf
   rintro e w2 ⟨rfl,hbb⟩
   obtain ⟨c1,f1⟩:=bcell hbb
   go_wp2_with fail
   refine bodyPost_ret (v:=.tuple #[.agg #[.int .i64 x,.int .i64 m,.string s],.int .i64 l]) ?_ rfl ⟨by rw [HF.out],below_box (((Below.refl _ _).alloc (Nat.le_refl _) _).trans (hbb.mono (by simp))) _ _ _⟩
   simp [results,Tryz.results292,go_sem,c1]
 ·skip
  by_cases h0:b=0
  ·subst h0
   clear ha hb
   go_enter Tryz.func292,Tryz.ntmps292
   go_wp2_with fail
   refine bodyPost_ret (v:=.tuple #[.agg #[.int .i64 0,.int .i64 0,.string ⟨#[]⟩],.int .i64 5]) ?_ rfl ⟨rfl,(Below.refl _ _).alloc (Nat.le_refl _) _⟩
   simp [results,Tryz.results292,go_sem]
  have h0':(b == 0)=false:=by simpa using h0
  have HV:Hid (rgV (a.tmod b) true=outV (Pl.reckon 10 a b)):=by
   unfold Hid
   unfold Pl.reckon
   rw [if_neg (by decide),if_neg (by decide),if_neg (by decide),if_neg h0,if_pos rfl]
   rfl
  clear ha hb
  go_enter Tryz.func292,Tryz.ntmps292
  go_wp2_with fail
  refine (rangedM _ _ _).mono ?_
  rw [HV.out]
  obtain ⟨x,m,l,s,hf⟩:=outV_form (Pl.reckon 10 a b)
  rw [hf]
  have HF:=Z hf
  clear hf
  rintro e w2 ⟨rfl,hbb⟩
  obtain ⟨c1,f1⟩:=bcell hbb
  go_wp2_with fail
  refine bodyPost_ret (v:=.tuple #[.agg #[.int .i64 x,.int .i64 m,.string s],.int .i64 l]) ?_ rfl ⟨by rw [HF.out],below_box (((Below.refl _ _).alloc (Nat.le_refl _) _).trans (hbb.mono (by simp))) _ _ _⟩
  simp [results,Tryz.results292,go_sem,c1]
theorem truthM (b:Bool)(w:World):Calls Tryz.prog 220 #[.bool b] w fun e w'=>e=.returned (vV (Pl.tru b))/\Below w.heap.size w w':=by
 cases b
 all_goals
  go_enter Tryz.func220,Tryz.ntmps220
  go_wp2_with fail
 ·exact bodyPost_ret (v:=vV (Pl.tru false)) (by simp [results,Tryz.results220,go_sem,vV,Pl.tru]) rfl ⟨rfl,(Below.refl _ _).alloc (Nat.le_refl _) _⟩
 ·exact bodyPost_ret (v:=vV (Pl.tru true)) (by simp [results,Tryz.results220,go_sem,vV,Pl.tru]) rfl ⟨rfl,(Below.refl _ _).alloc (Nat.le_refl _) _⟩
theorem missingM (v:Pl.V)(w:World):Calls Tryz.prog 254 #[vV v] w fun e w'=>e=.returned (.bool v.miss)/\Below w.heap.size w w':=by
 unfold Pl.V.miss vV
 go_enter Tryz.func254,Tryz.ntmps254
 go_wp2_with fail
 go_ret
 exact ⟨rfl,(Below.refl _ _).alloc (Nat.le_refl _) _⟩
theorem holdsM (op:Nat)(h11:11<=op)(h16:op<=16)(o:Int)(w:World):Calls Tryz.prog 293 #[.int .i64 ((op+2:Nat):Int),.int .i64 o] w fun e w'=>e=.returned (.bool (Pl.holds op o))/\w'=w:=by
 have ho:op=11\/op=12\/op=13\/op=14\/op=15\/op=16:=by omega
 clear h11 h16
 rcases ho with rfl|rfl|rfl|rfl|rfl|rfl
 all_goals
  go_enter Tryz.func293,Tryz.ntmps293
  go_wp2_with fail
  go_ret
  exact ⟨ret_bool (by simp [Pl.holds]),rfl⟩
theorem below_boxk {w w1:World}(hb:Below w.heap.size w w1){k:Nat}(hk:w.heap.size<=k)(a b c:Value):Below w.heap.size w (((w1.setCell ⟨k,0,none⟩ a).setCell ⟨k,1,none⟩ b).setCell ⟨k,2,none⟩ c) :=
 ((hb.setCell hk _).setCell hk _).setCell hk _
theorem negatedM (v:Pl.V)(hv:inR v.n)(w:World):Calls Tryz.prog 252 #[vV v] w fun e w'=>e=.returned (outV (Pl.neg v))/\Below w.heap.size w w':=by
 have HM:=Z (missingM v)
 unfold vV at HM ⊢
 obtain ⟨kind,n,s⟩:=v
 simp only at HM hv ⊢
 cases hm:Pl.V.miss ⟨kind,n,s⟩
 ·have HV:Hid (rgV (wrap64 (-n)) (n != -9223372036854775808)=outV (Pl.neg ⟨kind,n,s⟩)):=by
   unfold Hid Pl.neg
   rw [hm,if_neg (by simp)]
   rw [<- rgV_ranged]
   congr 1
   unfold inR at hv
   rw [Bool.eq_iff_iff]
   simp
   omega
  rw [hm] at HM
  go_enter Tryz.func252,Tryz.ntmps252
  go_wp2_with fail
  refine (U HM _).mono ?_
  rintro e w1 ⟨rfl,hb1⟩
  obtain ⟨c1,f1⟩:=bcell hb1
  have hz1:w.heap.size+1<w1.heap.size:=by have:=hb1.size;simp at this;omega
  have HB1:=Z (((((Below.refl w.heap.size w).alloc (Nat.le_refl _) _).alloc (by simp) _).trans (hb1.mono (by simp;omega))))
  clear hb1
  go_wp2_with fail
  refine (rangedM _ _ _).mono ?_
  rw [HV.out]
  obtain ⟨x,m,l,ss,hf⟩:=outV_form (Pl.neg ⟨kind,n,s⟩)
  rw [hf]
  have HF:=Z hf
  clear hf
  rintro e w2 ⟨rfl,hbb⟩
  obtain ⟨c2,f2⟩:=bcell hbb
  have HB2:=Z (HB1.out.trans (hbb.mono (by omega)))
  clear hbb
  go_wp2_with fail
  refine bodyPost_ret (v:=.tuple #[.agg #[.int .i64 x,.int .i64 m,.string ss],.int .i64 l]) ?_ rfl ⟨by rw [HF.out],below_boxk HB2.out (by omega) _ _ _⟩
  simp [results,Tryz.results252,go_sem,c2,c1,hz1]
 ·have HV:Hid (outV (Pl.neg ⟨kind,n,s⟩)=.tuple #[.agg #[.int .i64 kind,.int .i64 n,.string ⟨s.toArray⟩],.int .i64 0]):=by
   unfold Hid Pl.neg
   rw [hm,if_pos rfl];rfl
  rw [hm] at HM
  go_enter Tryz.func252,Tryz.ntmps252
  go_wp2_with fail
  refine (U HM _).mono ?_
  rintro e w1 ⟨rfl,hb1⟩
  obtain ⟨c1,f1⟩:=bcell hb1
  have hz1:w.heap.size+1<w1.heap.size:=by have:=hb1.size;simp at this;omega
  have HB1:=Z (((((Below.refl w.heap.size w).alloc (Nat.le_refl _) _).alloc (by simp) _).trans (hb1.mono (by simp;omega))))
  clear hb1
  go_wp2_with fail
  refine bodyPost_ret (v:=.tuple #[.agg #[.int .i64 kind,.int .i64 n,.string ⟨s.toArray⟩],.int .i64 0]) ?_ rfl ⟨by rw [HV.out],below_boxk HB1.out (by omega) _ _ _⟩
  simp [results,Tryz.results252,go_sem,c1,hz1]
theorem oppositeM (v:Pl.V)(w:World):Calls Tryz.prog 253 #[vV v] w fun e w'=>e=.returned (vV (Pl.opp v))/\Below w.heap.size w w':=by
 have HM:=Z (missingM v)
 rw [vV_eq v] at HM ⊢
 obtain ⟨kind,n,s⟩:=v
 simp only at HM ⊢
 cases hm:Pl.V.miss ⟨kind,n,s⟩
 ·have HV:Hid (vV (Pl.opp ⟨kind,n,s⟩)=vV (Pl.tru (n == 0))):=by
   unfold Hid Pl.opp
   rw [hm,if_neg (by simp)]
  rw [hm] at HM
  go_enter Tryz.func253,Tryz.ntmps253
  go_wp2_with fail
  refine (U HM _).mono ?_
  rintro e w1 ⟨rfl,hb1⟩
  obtain ⟨c1,f1⟩:=bcell hb1
  have hz1:w.heap.size+1<w1.heap.size:=by have:=hb1.size;simp at this;omega
  have HB1:=Z (((((Below.refl w.heap.size w).alloc (Nat.le_refl _) _).alloc (by simp) _).trans (hb1.mono (by simp;omega))))
  clear hb1
  go_wp2_with fail
  refine (truthM (n == 0) w1).mono ?_
  rintro e w2 ⟨rfl,hbb⟩
  rw [vV_eq]
  obtain ⟨c2,f2⟩:=bcell hbb
  have HB2:=Z (HB1.out.trans (hbb.mono (by omega)))
  clear hbb
  go_wp2_with fail
  refine bodyPost_ret (v:=vV (Pl.tru (n == 0))) ?_ rfl ⟨by rw [HV.out],below_boxk HB2.out (by omega) _ _ _⟩
  simp [results,Tryz.results253,go_sem,c2,c1,hz1,vV]
 ·have HV:Hid (vV (Pl.opp ⟨kind,n,s⟩)=.agg #[.int .i64 kind,.int .i64 n,.string ⟨s.toArray⟩]):=by
   unfold Hid Pl.opp
   rw [hm,if_pos rfl];rfl
  rw [hm] at HM
  go_enter Tryz.func253,Tryz.ntmps253
  go_wp2_with fail
  refine (U HM _).mono ?_
  rintro e w1 ⟨rfl,hb1⟩
  obtain ⟨c1,f1⟩:=bcell hb1
  have hz1:w.heap.size+1<w1.heap.size:=by have:=hb1.size;simp at this;omega
  have HB1:=Z (((((Below.refl w.heap.size w).alloc (Nat.le_refl _) _).alloc (by simp) _).trans (hb1.mono (by simp;omega))))
  clear hb1
  go_wp2_with fail
  refine bodyPost_ret (v:=.agg #[.int .i64 kind,.int .i64 n,.string ⟨s.toArray⟩]) ?_ rfl ⟨by rw [HV.out],below_boxk HB1.out (by omega) _ _ _⟩
  simp [results,Tryz.results253,go_sem,c1,hz1]
def eqB (a b:Int)(c:ByteArray)(a' b':Int)(c':ByteArray):Bool:=decide (a=a'/\b=b'/\c=c')
theorem eqB_V (r t:Pl.V):eqB r.kind r.n ⟨r.s.toArray⟩ t.kind t.n ⟨t.s.toArray⟩=Pl.V.same r t:=by
 unfold eqB
 rw [Bool.eq_iff_iff,decide_eq_true_eq,Pl.V.same_iff]
 obtain ⟨rk,rn,rs⟩:=r
 obtain ⟨tk,tn,tss⟩:=t
 simp
theorem eql_run (a b:Int)(c:ByteArray)(a' b':Int)(c':ByteArray)(w:World):Sem.run Tryz.prog (binOp .eql 34 (.agg #[.int .i64 a,.int .i64 b,.string c]) (.agg #[.int .i64 a',.int .i64 b',.string c'])) w=.ok (.bool (eqB a b c a' b' c')) w:=by
 unfold eqB
 by_cases h1:a=a' <;> by_cases h2:b=b' <;> by_cases h3:c=c' <;> simp [go_sem,h1,h2,h3]
 intro h
 apply h3
 rw [ByteArray.toList_eq,ByteArray.toList_eq] at h
 exact ByteArray.ext (Array.toList_inj.1 h)
theorem joinedM (l r t:Pl.V)(w:World):Calls Tryz.prog 291 #[vV l,vV r,vV t] w fun e w'=>e=.returned (vV (Pl.joined l r t))/\Below w.heap.size w w':=by
 have heq:=eql_run
 have hev:=eqB_V r t
 by_cases hrt:r=t
 ·have HV:Hid (vV (Pl.joined l r t)=vV r):=by unfold Hid Pl.joined;rw [if_pos (.inl hrt)]
  rw [Pl.V.same_yes hrt] at hev
  clear hrt
  unfold vV at *
  go_enter Tryz.func291,Tryz.ntmps291
  go_wp2_with fail
  refine bodyPost_ret (v:=.agg #[.int .i64 r.kind,.int .i64 r.n,.string ⟨r.s.toArray⟩]) ?_ rfl ⟨by rw [HV.out],?_⟩
  ·simp [results,Tryz.results291,go_sem]
  ·exact ((((Below.refl _ _).alloc (Nat.le_refl _) _).alloc (by simp) _).alloc (by simp;omega) _).alloc (by simp;omega) _
 ·rw [Pl.V.same_no hrt] at hev
  have HM:=Z (missingM r)
  cases hm:r.miss
  ·have HV:Hid (vV (Pl.joined l r t)=vV l):=by unfold Hid Pl.joined;rw [if_neg (by simp [hrt,hm])]
   rw [hm] at HM
   clear hrt hm
   unfold vV at *
   go_enter Tryz.func291,Tryz.ntmps291
   go_wp2_with fail
   refine (U HM _).mono ?_
   rintro e w1 ⟨rfl,hb1⟩
   obtain ⟨c1,f1⟩:=bcell hb1
   have hz1:w.heap.size+3<w1.heap.size:=by have:=hb1.size;simp at this;omega
   have HB1:=Z (((((((Below.refl w.heap.size w).alloc (Nat.le_refl _) _).alloc (by simp) _).alloc (by simp;omega) _).alloc (by simp;omega) _).trans (hb1.mono (by simp;omega))))
   clear hb1
   go_wp2_with fail
   refine bodyPost_ret (v:=.agg #[.int .i64 l.kind,.int .i64 l.n,.string ⟨l.s.toArray⟩]) ?_ rfl ⟨by rw [HV.out],?_⟩
   ·simp [results,Tryz.results291,go_sem,c1,hz1]
   ·exact below_boxk HB1.out (by omega) _ _ _
  ·have HV:Hid (vV (Pl.joined l r t)=vV r):=by unfold Hid Pl.joined;rw [if_pos (.inr hm)]
   rw [hm] at HM
   clear hrt hm
   unfold vV at *
   go_enter Tryz.func291,Tryz.ntmps291
   go_wp2_with fail
   refine (U HM _).mono ?_
   rintro e w1 ⟨rfl,hb1⟩
   obtain ⟨c1,f1⟩:=bcell hb1
   have hz1:w.heap.size+3<w1.heap.size:=by have:=hb1.size;simp at this;omega
   have HB1:=Z (((((((Below.refl w.heap.size w).alloc (Nat.le_refl _) _).alloc (by simp) _).alloc (by simp;omega) _).alloc (by simp;omega) _).trans (hb1.mono (by simp;omega))))
   clear hb1
   go_wp2_with fail
   refine bodyPost_ret (v:=.agg #[.int .i64 r.kind,.int .i64 r.n,.string ⟨r.s.toArray⟩]) ?_ rfl ⟨by rw [HV.out],?_⟩
   ·simp [results,Tryz.results291,go_sem,c1,hz1]
   ·exact below_boxk HB1.out (by omega) _ _ _
structure MachLib:Prop where
 int:∀ (x y:Int) (w:World),Calls Tryz.prog 260 #[.int .i64 x,.int .i64 y] w fun e w'=>e=.returned (.int .i64 (Lib.compareInt x y))/\w'=w
 str:∀ (x y:ByteArray) (w:World),Calls Tryz.prog 261 #[.string x,.string y] w fun e w'=>e=.returned (.int .i64 (Lib.compareBytes x.data.toList y.data.toList))/\w'=w
theorem orderM (X:MachLib)(l r:Pl.V)(w:World):Calls Tryz.prog 230 #[vV l,vV r] w fun e w'=>e=.returned (.int .i64 (Pl.order l r))/\Below w.heap.size w w':=by
 have HL:=Z (missingM l)
 have HR:=Z (missingM r)
 have HI:=Z X.int
 have HS:=Z (X.str ⟨l.s.toArray⟩ ⟨r.s.toArray⟩)
 clear X
 cases hl:l.miss
 ·rw [hl] at HL
  cases hr:r.miss
  ·rw [hr] at HR
   by_cases h2:l.kind=2
   ·have HV:Hid (Pl.order l r=Lib.compareBytes l.s r.s):=by unfold Hid Pl.order;rw [hl,hr,if_neg (by simp),if_pos h2]
    have g2:(l.kind == 2)=true:=by simp [h2]
    clear h2
    unfold vV at *
    go_enter Tryz.func230,Tryz.ntmps230
    go_wp2_with fail
    refine (U HL _).mono ?_
    rintro e w1 ⟨rfl,hb1⟩
    obtain ⟨c1,f1⟩:=bcell hb1
    have hz1a:w.heap.size<w1.heap.size:=by have:=hb1.size;simp at this;omega
    have hz1b:w.heap.size+1<w1.heap.size:=by have:=hb1.size;simp at this;omega
    have HB1:=Z (((((Below.refl w.heap.size w).alloc (Nat.le_refl _) _).alloc (by simp) _).trans (hb1.mono (by simp;omega))))
    clear hb1
    go_wp2_with fail
    refine (U HR _).mono ?_
    rintro e w2 ⟨rfl,hb2⟩
    obtain ⟨c2,f2⟩:=bcell hb2
    have hz2a:w.heap.size<w2.heap.size:=by have:=hb2.size;omega
    have hz2b:w.heap.size+1<w2.heap.size:=by have:=hb2.size;omega
    have HB2:=Z (HB1.out.trans (hb2.mono (by omega)))
    clear hb2
    go_wp2_with fail
    refine (U HS _).mono ?_
    rintro e w3 ⟨rfl,rfl⟩
    go_wp2_with fail
    go_ret
    exact ⟨ret_int HV.out.symm,HB2.out⟩
   ·have HV:Hid (Pl.order l r=Lib.compareInt l.n r.n):=by unfold Hid Pl.order;rw [hl,hr,if_neg (by simp),if_neg h2]
    have g2:(l.kind == 2)=false:=by simp [h2]
    clear h2
    unfold vV at *
    go_enter Tryz.func230,Tryz.ntmps230
    go_wp2_with fail
    refine (U HL _).mono ?_
    rintro e w1 ⟨rfl,hb1⟩
    obtain ⟨c1,f1⟩:=bcell hb1
    have hz1a:w.heap.size<w1.heap.size:=by have:=hb1.size;simp at this;omega
    have hz1b:w.heap.size+1<w1.heap.size:=by have:=hb1.size;simp at this;omega
    have HB1:=Z (((((Below.refl w.heap.size w).alloc (Nat.le_refl _) _).alloc (by simp) _).trans (hb1.mono (by simp;omega))))
    clear hb1
    go_wp2_with fail
    refine (U HR _).mono ?_
    rintro e w2 ⟨rfl,hb2⟩
    obtain ⟨c2,f2⟩:=bcell hb2
    have hz2a:w.heap.size<w2.heap.size:=by have:=hb2.size;omega
    have hz2b:w.heap.size+1<w2.heap.size:=by have:=hb2.size;omega
    have HB2:=Z (HB1.out.trans (hb2.mono (by omega)))
    clear hb2
    go_wp2_with fail
    refine (U HI _ _ _).mono ?_
    rintro e w3 ⟨rfl,rfl⟩
    go_wp2_with fail
    go_ret
    exact ⟨ret_int HV.out.symm,HB2.out⟩
  ·rw [hr] at HR
   have HV:Hid (Pl.order l r=Lib.compareInt l.kind r.kind):=by unfold Hid Pl.order;rw [hl,hr,if_pos (by simp)]
   unfold vV at *
   go_enter Tryz.func230,Tryz.ntmps230
   go_wp2_with fail
   refine (U HL _).mono ?_
   rintro e w1 ⟨rfl,hb1⟩
   obtain ⟨c1,f1⟩:=bcell hb1
   have hz1a:w.heap.size<w1.heap.size:=by have:=hb1.size;simp at this;omega
   have hz1b:w.heap.size+1<w1.heap.size:=by have:=hb1.size;simp at this;omega
   have HB1:=Z (((((Below.refl w.heap.size w).alloc (Nat.le_refl _) _).alloc (by simp) _).trans (hb1.mono (by simp;omega))))
   clear hb1
   go_wp2_with fail
   refine (U HR _).mono ?_
   rintro e w2 ⟨rfl,hb2⟩
   obtain ⟨c2,f2⟩:=bcell hb2
   have hz2a:w.heap.size<w2.heap.size:=by have:=hb2.size;omega
   have hz2b:w.heap.size+1<w2.heap.size:=by have:=hb2.size;omega
   have HB2:=Z (HB1.out.trans (hb2.mono (by omega)))
   clear hb2
   go_wp2_with fail
   refine (U HI _ _ _).mono ?_
   rintro e w3 ⟨rfl,rfl⟩
   go_wp2_with fail
   go_ret
   exact ⟨ret_int HV.out.symm,HB2.out⟩
 ·rw [hl] at HL
  have HV:Hid (Pl.order l r=Lib.compareInt l.kind r.kind):=by unfold Hid Pl.order;rw [hl,if_pos (by simp)]
  unfold vV at *
  go_enter Tryz.func230,Tryz.ntmps230
  go_wp2_with fail
  refine (U HL _).mono ?_
  rintro e w1 ⟨rfl,hb1⟩
  obtain ⟨c1,f1⟩:=bcell hb1
  have hz1a:w.heap.size<w1.heap.size:=by have:=hb1.size;simp at this;omega
  have hz1b:w.heap.size+1<w1.heap.size:=by have:=hb1.size;simp at this;omega
  have HB1:=Z (((((Below.refl w.heap.size w).alloc (Nat.le_refl _) _).alloc (by simp) _).trans (hb1.mono (by simp;omega))))
  clear hb1
  go_wp2_with fail
  refine (U HI _ _ _).mono ?_
  rintro e w3 ⟨rfl,rfl⟩
  go_wp2_with fail
  go_ret
  exact ⟨ret_int HV.out.symm,HB1.out⟩
theorem twoNull (op:Nat)(h6:6<=op)(h16:op<=16)(l r:Pl.V)(hm:l.miss=true\/r.miss=true)(w:World):Calls Tryz.prog 255 #[.int .i64 ((op+2:Nat):Int),vV l,vV r] w fun e w'=>e=.returned (outV (Pl.ap2 op l r))/\Below w.heap.size w w':=by
 have HV:Hid (outV (Pl.ap2 op l r)=.tuple #[.agg #[.int .i64 0,.int .i64 0,.string ⟨#[]⟩],.int .i64 0]):=by
  unfold Hid Pl.ap2
  rw [if_neg (by omega),if_pos (by rcases hm with h|h <;> simp [h])];rfl
 have HL:=Z (missingM l)
 have HR:=Z (missingM r)
 have g19:(((op+2:Nat):Int) == 19)=false:=by simp;omega
 have g20:(((op+2:Nat):Int) == 20)=false:=by simp;omega
 cases hl:l.miss
 ·have hr:r.miss=true:=by rcases hm with h|h;rw [hl] at h;cases h;exact h
  rw [hl] at HL
  rw [hr] at HR
  clear hm
  unfold vV at *
  go_enter Tryz.func255,Tryz.ntmps255
  go_wp2_with fail
  refine (U HL _).mono ?_
  rintro e w1 ⟨rfl,hb1⟩
  obtain ⟨c1,f1⟩:=bcell hb1
  have hz1a:w.heap.size<w1.heap.size:=by have:=hb1.size;simp at this;omega
  have hz1b:w.heap.size+1<w1.heap.size:=by have:=hb1.size;simp at this;omega
  have hz1c:w.heap.size+1+1<w1.heap.size:=by have:=hb1.size;simp at this;omega
  have HB1:=Z ((((((Below.refl w.heap.size w).alloc (Nat.le_refl _) _).alloc (by simp) _).alloc (by simp;omega) _).trans (hb1.mono (by simp;omega))))
  clear hb1
  go_wp2_with fail
  refine (U HR _).mono ?_
  rintro e w2 ⟨rfl,hb2⟩
  obtain ⟨c2,f2⟩:=bcell hb2
  have hz2c:w.heap.size+1+1<w2.heap.size:=by have:=hb2.size;omega
  have HB2:=Z (HB1.out.trans (hb2.mono (by omega)))
  clear hb2
  go_wp2_with fail
  refine bodyPost_ret (v:=.tuple #[.agg #[.int .i64 0,.int .i64 0,.string ⟨#[]⟩],.int .i64 0]) ?_ rfl ⟨by rw [HV.out],below_boxk HB2.out (by omega) _ _ _⟩
  simp [results,Tryz.results255,go_sem,c2,c1,hz1a,hz1b,hz1c]
 ·rw [hl] at HL
  clear hm
  unfold vV at *
  go_enter Tryz.func255,Tryz.ntmps255
  go_wp2_with fail
  refine (U HL _).mono ?_
  rintro e w1 ⟨rfl,hb1⟩
  obtain ⟨c1,f1⟩:=bcell hb1
  have hz1a:w.heap.size<w1.heap.size:=by have:=hb1.size;simp at this;omega
  have hz1b:w.heap.size+1<w1.heap.size:=by have:=hb1.size;simp at this;omega
  have hz1c:w.heap.size+1+1<w1.heap.size:=by have:=hb1.size;simp at this;omega
  have HB1:=Z ((((((Below.refl w.heap.size w).alloc (Nat.le_refl _) _).alloc (by simp) _).alloc (by simp;omega) _).trans (hb1.mono (by simp;omega))))
  clear hb1
  go_wp2_with fail
  refine bodyPost_ret (v:=.tuple #[.agg #[.int .i64 0,.int .i64 0,.string ⟨#[]⟩],.int .i64 0]) ?_ rfl ⟨by rw [HV.out],below_boxk HB1.out (by omega) _ _ _⟩
  simp [results,Tryz.results255,go_sem,c1,hz1a,hz1b,hz1c]
theorem twoNum (op:Nat)(h6:6<=op)(h10:op<=10)(l r:Pl.V)(hl:l.miss=false)(hr:r.miss=false)(ha:inR l.n)(hb:inR r.n)(w:World):Calls Tryz.prog 255 #[.int .i64 ((op+2:Nat):Int),vV l,vV r] w fun e w'=>e=.returned (outV (Pl.ap2 op l r))/\Below w.heap.size w w':=by
 have HV:Hid (Pl.ap2 op l r=Pl.reckon op l.n r.n):=by
  unfold Hid Pl.ap2
  rw [if_neg (by omega),if_neg (by simp [hl,hr]),if_pos h10]
 have HL:=Z (missingM l)
 have HR:=Z (missingM r)
 have HK:=Z (reckonM op h6 h10 l.n r.n ha hb)
 rw [HV.out]
 clear HV
 generalize Pl.reckon op l.n r.n=o at *
 obtain ⟨oa,om,ol,os,ho⟩:=outV_form o
 rw [ho] at HK ⊢
 have g19:(((op+2:Nat):Int) == 19)=false:=by simp;omega
 have g20:(((op+2:Nat):Int) == 20)=false:=by simp;omega
 rw [hl] at HL
 rw [hr] at HR
 unfold vV at *
 go_enter Tryz.func255,Tryz.ntmps255
 go_wp2_with fail
 refine (U HL _).mono ?_
 rintro e w1 ⟨rfl,hb1⟩
 obtain ⟨c1,f1⟩:=bcell hb1
 have hz1a:w.heap.size<w1.heap.size:=by have:=hb1.size;simp at this;omega
 have hz1b:w.heap.size+1<w1.heap.size:=by have:=hb1.size;simp at this;omega
 have hz1c:w.heap.size+1+1<w1.heap.size:=by have:=hb1.size;simp at this;omega
 have HB1:=Z ((((((Below.refl w.heap.size w).alloc (Nat.le_refl _) _).alloc (by simp) _).alloc (by simp;omega) _).trans (hb1.mono (by simp;omega))))
 clear hb1
 go_wp2_with fail
 refine (U HR _).mono ?_
 rintro e w2 ⟨rfl,hb2⟩
 obtain ⟨c2,f2⟩:=bcell hb2
 have hz2a:w.heap.size<w2.heap.size:=by have:=hb2.size;omega
 have hz2b:w.heap.size+1<w2.heap.size:=by have:=hb2.size;omega
 have hz2c:w.heap.size+1+1<w2.heap.size:=by have:=hb2.size;omega
 have HB2:=Z (HB1.out.trans (hb2.mono (by omega)))
 clear hb2
 go_wp2_with fail
 all_goals first
  | (refine (U HK _).mono ?_
     rintro e w3 ⟨rfl,hb3⟩
     obtain ⟨c3,f3⟩:=bcell hb3
     have hz3c:w.heap.size+1+1<w3.heap.size:=by have:=hb3.size;omega
     have HB3:=Z (HB2.out.trans (hb3.mono (by omega)))
     clear hb3
     go_wp2_with fail
     refine bodyPost_ret (v:=.tuple #[.agg #[.int .i64 oa,.int .i64 om,.string os],.int .i64 ol]) ?_ rfl ⟨rfl,below_boxk HB3.out (by omega) _ _ _⟩
     simp [results,Tryz.results255,go_sem,c3,c2,c1,hz1a,hz1b,hz1c,hz2a,hz2b,hz2c])
  | (exfalso;simp at *;omega)
theorem twoCmp (X:MachLib)(op:Nat)(h11:11<=op)(h16:op<=16)(l r:Pl.V)(hl:l.miss=false)(hr:r.miss=false)(w:World):Calls Tryz.prog 255 #[.int .i64 ((op+2:Nat):Int),vV l,vV r] w fun e w'=>e=.returned (outV (Pl.ap2 op l r))/\Below w.heap.size w w':=by
 have HV:Hid (outV (Pl.ap2 op l r)=.tuple #[vV (Pl.tru (Pl.holds op (Pl.order l r))),.int .i64 0]):=by
  unfold Hid Pl.ap2
  rw [if_neg (by omega),if_neg (by simp [hl,hr]),if_neg (by omega)];rfl
 have HL:=Z (missingM l)
 have HR:=Z (missingM r)
 have HO:=Z (orderM X l r)
 have HH:=Z (holdsM op h11 h16 (Pl.order l r))
 have HT:=Z (truthM (Pl.holds op (Pl.order l r)))
 generalize Pl.holds op (Pl.order l r)=bb at *
 generalize Pl.order l r=oo at *
 have ht:∃ a m:Int,∃ s:ByteArray,vV (Pl.tru bb)=.agg #[.int .i64 a,.int .i64 m,.string s]:=⟨_,_,_,rfl⟩
 obtain ⟨ta,tm,tss,ht⟩:=ht
 rw [ht] at HT HV
 clear ht
 have g19:(((op+2:Nat):Int) == 19)=false:=by simp;omega
 have g20:(((op+2:Nat):Int) == 20)=false:=by simp;omega
 have g8:(((op+2:Nat):Int) == 8)=false:=by simp;omega
 have g9:(((op+2:Nat):Int) == 9)=false:=by simp;omega
 have g10:(((op+2:Nat):Int) == 10)=false:=by simp;omega
 have g11:(((op+2:Nat):Int) == 11)=false:=by simp;omega
 have g12:(((op+2:Nat):Int) == 12)=false:=by simp;omega
 rw [hl] at HL
 rw [hr] at HR
 unfold vV at *
 go_enter Tryz.func255,Tryz.ntmps255
 go_wp2_with fail
 refine (U HL _).mono ?_
 rintro e w1 ⟨rfl,hb1⟩
 obtain ⟨c1,f1⟩:=bcell hb1
 have hz1a:w.heap.size<w1.heap.size:=by have:=hb1.size;simp at this;omega
 have hz1b:w.heap.size+1<w1.heap.size:=by have:=hb1.size;simp at this;omega
 have hz1c:w.heap.size+1+1<w1.heap.size:=by have:=hb1.size;simp at this;omega
 have HB1:=Z ((((((Below.refl w.heap.size w).alloc (Nat.le_refl _) _).alloc (by simp) _).alloc (by simp;omega) _).trans (hb1.mono (by simp;omega))))
 clear hb1
 go_wp2_with fail
 refine (U HR _).mono ?_
 rintro e w2 ⟨rfl,hb2⟩
 obtain ⟨c2,f2⟩:=bcell hb2
 have hz2a:w.heap.size<w2.heap.size:=by have:=hb2.size;omega
 have hz2b:w.heap.size+1<w2.heap.size:=by have:=hb2.size;omega
 have hz2c:w.heap.size+1+1<w2.heap.size:=by have:=hb2.size;omega
 have HB2:=Z (HB1.out.trans (hb2.mono (by omega)))
 clear hb2
 go_wp2_with fail
 refine (U HO _).mono ?_
 rintro e w3 ⟨rfl,hb3⟩
 obtain ⟨c3,f3⟩:=bcell hb3
 have hz3a:w.heap.size<w3.heap.size:=by have:=hb3.size;omega
 have hz3b:w.heap.size+1<w3.heap.size:=by have:=hb3.size;omega
 have hz3c:w.heap.size+1+1<w3.heap.size:=by have:=hb3.size;omega
 have HB3:=Z (HB2.out.trans (hb3.mono (by omega)))
 clear hb3
 go_wp2_with fail
 refine (U HH _).mono ?_
 rintro e w4 ⟨rfl,rfl⟩
 go_wp2_with fail
 refine (U HT _).mono ?_
 rintro e w5 ⟨rfl,hb5⟩
 obtain ⟨c5,f5⟩:=bcell hb5
 have hz5c:w.heap.size+1+1<w5.heap.size:=by have:=hb5.size;omega
 have HB5:=Z (HB3.out.trans (hb5.mono (by omega)))
 clear hb5
 go_wp2_with fail
 refine bodyPost_ret (v:=.tuple #[.agg #[.int .i64 ta,.int .i64 tm,.string tss],.int .i64 0]) ?_ rfl ⟨by rw [HV.out],below_boxk HB5.out (by omega) _ _ _⟩
 simp [results,Tryz.results255,go_sem,c5,c3,c2,c1,hz1a,hz1b,hz1c,hz2a,hz2b,hz2c,hz3a,hz3b,hz3c]
theorem sz3 {w w1:World}{x y z:Obj}(hb:Below ((((w.alloc x).alloc y).alloc z).drew).heap.size ((((w.alloc x).alloc y).alloc z).drew) w1):w.heap.size<w1.heap.size/\w.heap.size+1<w1.heap.size/\w.heap.size+1+1<w1.heap.size:=by
 have h:=hb.size
 simp [World.drew] at h
 omega
theorem sz3' {w w1 w2:World}(hb:Below w1.heap.size w1 w2)(h1:w.heap.size<w1.heap.size)(h2:w.heap.size+1<w1.heap.size)(h3:w.heap.size+1+1<w1.heap.size):w.heap.size<w2.heap.size/\w.heap.size+1<w2.heap.size/\w.heap.size+1+1<w2.heap.size:=by
 have h:=hb.size
 omega
theorem joined_box {w w1 w2:World}{x y z:Obj}(hb1:Below ((((w.alloc x).alloc y).alloc z).drew).heap.size ((((w.alloc x).alloc y).alloc z).drew) w1)(hb2:Below w1.heap.size w1 w2)(C:Array Value)(t:TypeId)(hz:z=.cells C t)(a b c:Value)(hC:C.size=3) :
 (((w2.setCell ⟨w.heap.size+1+1,0,none⟩ a).setCell ⟨w.heap.size+1+1,1,none⟩ b).setCell ⟨w.heap.size+1+1,2,none⟩ c).heap[w.heap.size+1+1]?=some (.cells #[a,b,c] t)/\Below w.heap.size w (((w2.setCell ⟨w.heap.size+1+1,0,none⟩ a).setCell ⟨w.heap.size+1+1,1,none⟩ b).setCell ⟨w.heap.size+1+1,2,none⟩ c):=by
 subst hz
 have h0:((((w.alloc x).alloc y).alloc (.cells C t)).drew).heap[w.heap.size+1+1]?=some (.cells C t):=blk_new' ((w.alloc x).alloc y) (.cells C t) _ (by simp)
 have hw:Below w.heap.size w ((((w.alloc x).alloc y).alloc (.cells C t)).drew):=((((Below.refl w.heap.size w).alloc (Nat.le_refl _) _).alloc (by simp) _).alloc (by simp;omega) _).drew
 have h1:=bB hb1 (lB h0) h0
 have h2:=bB hb2 (lB h1) h1
 have hz1:=hb1.size
 simp [World.drew] at hz1
 have hB:Below w.heap.size w w2:=(hw.trans (hb1.mono (by simp [World.drew];omega))).trans (hb2.mono (by omega))
 refine ⟨?_,below_boxk hB (by omega) _ _ _⟩
 have h3:=bS (bS (bS h2 0 a) 1 b) 2 c
 rw [h3]
 obtain ⟨l⟩:=C
 match l,hC with
 | [p,q,r],_=>rfl
theorem twoLogic (op:Nat)(bb:Bool)(h:(op=17/\bb=false)\/(op=18/\bb=true))(l r:Pl.V)(w:World):Calls Tryz.prog 255 #[.int .i64 ((op+2:Nat):Int),vV l,vV r] w fun e w'=>e=.returned (outV (Pl.ap2 op l r))/\Below w.heap.size w w':=by
 have HT:=Z (truthM bb)
 have HJ:=Z (joinedM l r (Pl.tru bb))
 have HV:Hid (outV (Pl.ap2 op l r)=.tuple #[vV (Pl.joined l r (Pl.tru bb)),.int .i64 0]):=by
  unfold Hid Pl.ap2
  rcases h with ⟨rfl,rfl⟩|⟨rfl,rfl⟩ <;> rfl
 generalize Pl.joined l r (Pl.tru bb)=jn at *
 have hj:∃ a m:Int,∃ s:ByteArray,vV jn=.agg #[.int .i64 a,.int .i64 m,.string s]:=⟨_,_,_,rfl⟩
 have ht:∃ a m:Int,∃ s:ByteArray,vV (Pl.tru bb)=.agg #[.int .i64 a,.int .i64 m,.string s]:=⟨_,_,_,rfl⟩
 obtain ⟨ja,jm,js,hj⟩:=hj
 obtain ⟨ta,tm,tss,ht⟩:=ht
 rw [hj] at HJ HV
 rw [ht] at HJ HT
 clear hj ht
 rcases h with ⟨rfl,rfl⟩|⟨rfl,rfl⟩
 all_goals
  unfold vV at *
  go_enter Tryz.func255,Tryz.ntmps255
  go_upto_region 4 with fail
  go_cut [6,7] (fun s6 s7 wx=>s6=.pointer (some ⟨w.heap.size+1+1,0,none⟩)/\s7=.int .i64 0/\wx.heap[w.heap.size+1+1]?=some (.cells #[.int .i64 ja,.int .i64 jm,.string js] 34)/\Below w.heap.size w wx)
  case first =>
   go_region_with (first
    | (go_at_call 220;refine (U HT _).mono ?_;rintro e w1 ⟨rfl,hb1⟩;obtain ⟨c1,f1⟩:=bcell hb1;obtain ⟨hz1a,hz1b,hz1c⟩:=sz3 hb1)
    | (go_at_call 291;refine (U HJ _).mono ?_;rintro e w2 ⟨rfl,hb2⟩;obtain ⟨c2,f2⟩:=bcell hb2;obtain ⟨hz2a,hz2b,hz2c⟩:=sz3' hb2 hz1a hz1b hz1c))
   all_goals
    go_wp2_with fail
    go_meet
    obtain ⟨k1,k2⟩:=joined_box hb1 hb2 _ _ rfl (.int .i64 ja) (.int .i64 jm) (.string js) rfl
    exact ⟨rfl,rfl,k1,k2⟩
  case rest =>
   obtain ⟨rfl,rfl,hbx,hbel⟩:=hcut
   have b0:=bC hbx 0
   have b1:=bC hbx 1
   have b2:=bC hbx 2
   simp at b0 b1 b2
   go_wp2_with fail
   refine bodyPost_ret (v:=.tuple #[.agg #[.int .i64 ja,.int .i64 jm,.string js],.int .i64 0]) ?_ rfl ⟨by rw [HV.out],hbel⟩
   simp [results,Tryz.results255,go_sem,b0,b1,b2]
theorem add_block (p:Addr)(i:Nat):(p.add i).block=p.block:=by
 unfold Addr.add
 split <;> rfl
end Go.Proofs.YtojdpjpldokjmaaGreatDoor
