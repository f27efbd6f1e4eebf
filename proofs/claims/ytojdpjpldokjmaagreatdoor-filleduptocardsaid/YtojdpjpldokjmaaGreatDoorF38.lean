/- What the library does for the lexer and the machine, by the shelf's contracts. -/
import Derived.Test.YtojdpjpldokjmaaGreatDoorF08
import Derived.Test.YtojdpjpldokjmaaGreatDoorShelf
import Derived.Shelf.Strings.SlTrimAscii
set_option maxHeartbeats 60000000
set_option maxRecDepth 100000
namespace Go.Proofs.YtojdpjpldokjmaaGreatDoor
open Go.RowKit Go.Deep
set_option linter.unusedSimpArgs false
set_option linter.unusedVariables false
theorem up_upperB (c:UInt8):Lib.upperB c=Pl.up c:=by
 have h:∀ i:Fin 256,Lib.upperB (UInt8.ofNat i.1)=Pl.up (UInt8.ofNat i.1):=by decide
 have hc:=h ⟨c.toNat,c.toNat_lt⟩
 simpa using hc
theorem parse_worth:∀ (l:List UInt8)(acc:Nat),(∀ c ∈ l,Pl.isDig c=true)->acc<18446744073709551616 ->
 (Pl.worth acc l<=9223372036854775807->∃ u:Nat,Lib.parseUint10 acc l=.ok u/\(u:Int)=Pl.worth acc l)/\(9223372036854775807<Pl.worth acc l->Lib.parseUint10 acc l=.range\/∃ u:Nat,Lib.parseUint10 acc l=.ok u/\9223372036854775808<=u)
 | [],acc,_,h=>by
  simp only [Pl.worth,Lib.parseUint10]
  exact ⟨fun _=>⟨acc,rfl,rfl⟩,fun h=>.inr ⟨acc,rfl,by omega⟩⟩
 | c :: r,acc,hd,hacc=>by
  have hc:=(Pl.isDig_iff c).1 (hd c (by simp))
  have hr:∀ c ∈ r,Pl.isDig c=true:=fun x hx=>hd x (by simp [hx])
  have hw:=Pl.worth_ge r (10*acc+(c.toNat - 48)) (by omega) hr
  have e:Pl.worth acc (c :: r)=Pl.worth (10*(acc:Int)+(c.toNat - 48)) r:=rfl
  unfold Lib.parseUint10
  rw [if_pos hc,e]
  by_cases h1:1844674407370955162<=acc
  ·rw [if_pos h1]
   exact ⟨fun h=>by omega,fun _=>.inl rfl⟩
  ·rw [if_neg h1]
   by_cases h2:18446744073709551616<=acc*10+(c.toNat - 48)
   ·rw [if_pos h2]
    exact ⟨fun h=>by omega,fun _=>.inl rfl⟩
   ·rw [if_neg h2]
    have e2:((acc*10+(c.toNat - 48):Nat):Int)=10*(acc:Int)+((c.toNat:Int) - 48):=by omega
    have ih:=parse_worth r (acc*10+(c.toNat - 48)) hr (by omega)
    rw [e2] at ih
    exact ih
theorem atoi_dig {l:List UInt8}(hd:∀ c ∈ l,Pl.isDig c=true)(hne:l≠[]):(Pl.worth 0 l<=9223372036854775807->Lib.atoiAll l=.ok (Pl.worth 0 l))/\(9223372036854775807<Pl.worth 0 l->Lib.atoiAll l=.range):=by
 cases l with
 | nil=>exact absurd rfl hne
 | cons c r =>
  have hc:=(Pl.isDig_iff c).1 (hd c (by simp))
  have hp:=parse_worth (c :: r) 0 hd (by omega)
  rw [show ((0:Nat):Int)=0 from rfl] at hp
  have e:Lib.parseMag (if c.toNat=43\/c.toNat=45 then r else c :: r)=Lib.parseUint10 0 (c :: r):=by
   rw [if_neg (by omega)];unfold Lib.parseMag;rw [if_neg (by simp)]
  unfold Lib.atoiAll
  simp only
  rw [e]
  constructor
  ·intro h
   obtain ⟨u,h1,h2⟩:=hp.1 h
   rw [h1]
   simp only
   have hn:¬ c.toNat=45:=by omega
   rw [if_neg (by omega),if_neg (by simp [hn]),if_neg hn,h2]
  ·intro h
   rcases hp.2 h with h1|⟨u,h1,h2⟩
   ·rw [h1]
   ·rw [h1]
    simp only
    rw [if_pos ⟨by omega,h2⟩]
theorem grown_below {w w':World}(h:w'=w\/∃ t,w'=Lib.bytesWorld w 5 t):Below w.heap.size w w':=by
 rcases h with rfl|⟨t,rfl⟩
 ·exact Below.refl _ _
 ·exact Lib.bytesWorld_below _ _ _
theorem cloneL (s:ByteArray)(w:World)(hs:s.size<=1048576):Calls Tryz.prog 204 #[.string s] w fun e w'=>e=.returned (.string s)/\Below w.heap.size w w':=by
 have HC:=Z (Tryz.stringslite_Clone s w (by omega))
 go_enter Tryz.func204,Tryz.ntmps204
 go_wp2_with fail
 refine (U HC).mono ?_
 rintro e w1 ⟨rfl,hb⟩
 go_wp2_with fail
 go_ret
 exact ⟨rfl,hb⟩
theorem lexLib:LexLib where
 pre:=fun s p w=>Tryz.strings_HasPrefix s p w
 upper:=fun s w hs ha=>(Tryz.strings_ToUpper_ascii s w (by omega) (fun j b hb=>ha b (List.mem_of_getElem? hb))).mono (by
  rintro e w' ⟨rfl,hb⟩
  refine ⟨?_,hb⟩
  unfold Lib.toUpperA
  rw [List.map_congr_left (fun c _=>up_upperB c)])
 trim:=fun s w=>(Any.strings_TrimLeft_laid Tryz.lays161 (by kernel_rfl) s ⟨#[32,9,10]⟩ w (by decide) (ascii_of_all (by decide))).mono (by
  rintro e w' ⟨rfl,hb⟩
  refine ⟨?_,hb⟩
  unfold Lib.trimLeftS
  have hp:(fun c:UInt8=>List.contains [32,9,10] c)=Pl.isBlank:=by
   funext c
   unfold Pl.isBlank
   rw [Bool.eq_iff_iff]
   simp
   constructor
   ·rintro (rfl|rfl|rfl) <;> simp
   ·intro h
    rcases h with (h|h)|h
    ·exact .inl (UInt8.toNat_inj.1 h)
    ·exact .inr (.inl (UInt8.toNat_inj.1 h))
    ·exact .inr (.inr (UInt8.toNat_inj.1 h))
  rw [<- hp])
 clone:=fun s w hs=>cloneL s w hs
 atoi:=fun s w hs hd hne hw=>(Tryz.strconv_Atoi_ok s (by omega) _ ((atoi_dig hd hne).1 hw) w).mono (by
  rintro e w' ⟨rfl,hb⟩
  exact ⟨rfl,grown_below hb⟩)
 great:=fun s w hs hd hne hw hv=>by
  obtain ⟨te,pe,hv⟩:=hv
  refine (Tryz.strconv_Atoi_range s (by omega) ((atoi_dig hd hne).2 hw) _ w hv (.inr ⟨te,pe,rfl⟩)).mono ?_
  rintro e w' ⟨N,rfl,_,_,hb⟩
  exact ⟨_,_,_,rfl,hb⟩
theorem compareL (x y:Int)(w:World):Calls Tryz.prog 260 #[.int .i64 x,.int .i64 y] w fun e w'=>e=.returned (.int .i64 (Lib.compareInt x y))/\w'=w:=by
 have hx:(x != x)=false:=by simp
 have hy:(y != y)=false:=by simp
 rcases Int.lt_trichotomy x y with h|h|h
 ·have HV:Hid (Lib.compareInt x y=-1):=by unfold Hid Lib.compareInt;rw [if_pos h]
  go_enter Tryz.func260,Tryz.ntmps260
  go_wp2
  go_ret
  exact ⟨ret_int HV.out.symm,rfl⟩
 ·subst h
  have HV:Hid (Lib.compareInt x x=0):=by unfold Hid Lib.compareInt;rw [if_neg (by omega),if_neg (by omega)]
  go_enter Tryz.func260,Tryz.ntmps260
  go_wp2
  go_ret
  exact ⟨ret_int HV.out.symm,rfl⟩
 ·have HV:Hid (Lib.compareInt x y=1):=by unfold Hid Lib.compareInt;rw [if_neg (by omega),if_pos h]
  have h2:¬ x<y:=by omega
  go_enter Tryz.func260,Tryz.ntmps260
  go_wp2
  go_ret
  exact ⟨ret_int HV.out.symm,rfl⟩
theorem machLib:MachLib where
 int:=compareL
 str:=fun x y w=>Tryz.strings_Compare x y w
end Go.Proofs.YtojdpjpldokjmaaGreatDoor
