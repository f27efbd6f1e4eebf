/- The document's digits, written. -/
import Derived.Test.YtojdpjpldokjmaaGreatDoorF19
import Derived.Test.YtojdpjpldokjmaaGreatDoorF07
import Derived.Test.YtojdpjpldokjmaaGreatDoorF08
import Derived.Test.YtojdpjpldokjmaaGreatDoorF14
set_option maxHeartbeats 60000000
set_option maxRecDepth 100000
namespace Go.Proofs.YtojdpjpldokjmaaGreatDoor.Pl
theorem decGo_acc:∀ (f n:Nat)(acc:List UInt8),decGo f n acc=decGo f n []++acc
 | 0,_,acc=>by simp [decGo]
 | f+1,n,acc=>by
  unfold decGo
  split
  ·rfl
  ·rw [decGo_acc f (n / 10) (_ :: acc),decGo_acc f (n / 10) [_]]
   simp
theorem decGo_more:∀ (f n:Nat),n<10 ^ (f+1)->decGo (f+2) n []=decGo (f+1) n []
 | 0,n,h=>by
  unfold decGo
  rw [if_pos (by omega),if_pos (by omega)]
 | f+1,n,h=>by
  conv=>lhs;unfold decGo
  conv=>rhs;unfold decGo
  split
  ·rfl
  ·rw [decGo_acc,decGo_acc (f+1),decGo_more f (n / 10) (by rw [Nat.pow_succ] at h;exact Nat.div_lt_of_lt_mul (by omega))]
theorem dec_low {n:Nat}(h:n<10):dec n=[UInt8.ofNat (48+n)]:=by
 unfold dec decGo
 rw [if_pos h]
theorem dec_high {n:Nat}(h:¬ n<10)(hn:n<10 ^ 20):dec n=dec (n / 10)++[UInt8.ofNat (48+n % 10)]:=by
 unfold dec
 conv=>lhs;unfold decGo
 rw [if_neg h,decGo_acc]
 rw [decGo_more 18 (n / 10) (Nat.div_lt_of_lt_mul (by omega))]
end Go.Proofs.YtojdpjpldokjmaaGreatDoor.Pl
namespace Go.Proofs.YtojdpjpldokjmaaGreatDoor
open Go.RowKit Go.Deep
set_option linter.unusedSimpArgs false
set_option linter.unusedVariables false
theorem dig_at {d:Nat}(h:d<10):(⟨#[48,49,50,51,52,53,54,55,56,57]⟩:ByteArray).extract d (d+1)=⟨#[UInt8.ofNat (48+d)]⟩:=by
 match d,h with
 | 0,_=>rfl|1,_=>rfl|2,_=>rfl|3,_=>rfl|4,_=>rfl|5,_=>rfl|6,_=>rfl|7,_=>rfl|8,_=>rfl|9,_=>rfl
theorem digitsLow (n:Nat)(h:n<10)(w:World):Calls Tryz.prog 141 #[.int .i64 (n:Nat)] w fun e w'=>e=.returned (.string ⟨(Pl.dec n).toArray⟩)/\w'=w:=by
 rw [Pl.dec_low h]
 have HD:=Z (dig_at h)
 go_enter Tryz.func141,Tryz.ntmps141
 go_wp2_with fail
 go_ret
 exact ⟨ret_str (by rw [Nat.mod_eq_of_lt h];exact HD.out),rfl⟩
theorem digitsHigh (n:Nat)(h:¬ n<10)(hn:n<=9223372036854775807)(w:World)(hC:Calls Tryz.prog 141 #[.int .i64 ((n / 10:Nat):Int)] w fun e w'=>e=.returned (.string ⟨(Pl.dec (n / 10)).toArray⟩)/\w'=w):Calls Tryz.prog 141 #[.int .i64 (n:Nat)] w fun e w'=>e=.returned (.string ⟨(Pl.dec n).toArray⟩)/\w'=w:=by
 rw [Pl.dec_high h (by omega)]
 have HD:=Z (dig_at (show n % 10<10 from Nat.mod_lt _ (by omega)))
 have hl:=(Pl.dec_ok (n:=n / 10) (by omega)).2.2.2
 have HC:=Z hC
 generalize Pl.dec (n / 10)=ds at *
 have hs1:((⟨#[48,49,50,51,52,53,54,55,56,57]⟩:ByteArray).extract (n % 10) (n % 10+1)).size=1:=by rw [HD.out];rfl
 have HS:=Z hs1
 clear hC hs1
 go_enter Tryz.func141,Tryz.ntmps141
 go_upto_region 4 with fail
 rw [HD.out]
 go_wp2_with fail
 refine (U HC).mono ?_
 rintro e w1 ⟨rfl,rfl⟩
 clear HC
 go_wp2_with fail
 go_ret
 exact ⟨ret_str (by rw [dig_add];exact cat2' ds [UInt8.ofNat (48+n % 10)]),rfl⟩
theorem digitsR:∀ (n:Nat),n<=9223372036854775807->∀ (w:World),Calls Tryz.prog 141 #[.int .i64 (n:Nat)] w fun e w'=>e=.returned (.string ⟨(Pl.dec n).toArray⟩)/\w'=w:=by
 intro n
 induction n using Nat.strongRecOn with
 | ind n ih =>
  intro hn w
  by_cases h:n<10
  ·exact digitsLow n h w
  ·exact digitsHigh n h hn w (ih (n / 10) (by omega) (by omega) w)
theorem digitsNeg (k:Nat)(h0:0<k)(hk:k<=9223372036854775807)(w:World):Calls Tryz.prog 141 #[.int .i64 (-(k:Int))] w fun e w'=>e=.returned (.string ⟨(45 :: Pl.dec k).toArray⟩)/\w'=w:=by
 have HC:=Z (digitsR k hk w)
 have hl:=(Pl.dec_ok (n:=k) (by omega)).2.2.2
 generalize Pl.dec k=ds at *
 go_enter Tryz.func141,Tryz.ntmps141
 go_wp2_with fail
 refine (U HC).mono ?_
 rintro e w1 ⟨rfl,rfl⟩
 clear HC
 go_wp2_with fail
 go_ret
 exact ⟨ret_str (cons_str _ _),rfl⟩
theorem valText_num {v:Pl.V}(h:v.kind=1):Pl.valText v=Pl.numText v.n:=by unfold Pl.valText;rw [if_pos h]
theorem writtenNum (v:Pl.V)(hv:Pl.okV v)(hk:v.kind=1)(w:World):Calls Tryz.prog 90 #[aggR v] w fun e w'=>e=.returned (.string ⟨(Pl.valText v).toArray⟩)/\Below w.heap.size w w':=by
 rw [valText_num hk]
 have hr:=hv.range
 have HB:Hid (∀ o,Below w.heap.size w (w.alloc o)):=fun o=>(Below.refl _ _).alloc (Nat.le_refl _) _
 obtain ⟨k,n,s⟩:=v
 simp only at hk hr
 subst hk
 unfold aggR
 simp only
 generalize (⟨s.toArray⟩:ByteArray)=bs
 clear hv
 by_cases hm:n=-9223372036854775808
 ·subst hm
  have hN:Pl.numText (-9223372036854775808)=[45,57,50,50,51,51,55,50,48,51,54,56,53,52,55,55,53,56,48,55,32,45,32,49]:=by unfold Pl.numText;rw [if_pos rfl]
  rw [hN]
  clear hN hr
  go_enter Tryz.func90,Tryz.ntmps90
  go_wp2_with fail
  go_ret
  exact ⟨rfl,HB.out _⟩
 ·have g1:(n == -9223372036854775808)=false:=by simp [hm]
  by_cases h0:n<0
  ·obtain ⟨k,rfl⟩:∃ k:Nat,n=-(k:Int):=⟨(-n).toNat,by omega⟩
   have hN:Pl.numText (-(k:Int))=45 :: Pl.dec k:=by
    unfold Pl.numText
    rw [if_neg hm,if_pos h0]
    congr 2
    omega
   rw [hN]
   have HC:=Z (fun W=>digitsNeg k (by omega) (by omega) W)
   generalize (45 :: Pl.dec k)=ds at *
   clear hN hm hr
   go_enter Tryz.func90,Tryz.ntmps90
   go_wp2_with fail
   refine ((U HC) _).mono ?_
   rintro e w1 ⟨rfl,rfl⟩
   clear HC
   go_wp2_with fail
   go_ret
   exact ⟨rfl,HB.out _⟩
  ·obtain ⟨k,rfl⟩:∃ k:Nat,n=(k:Int):=⟨n.toNat,by omega⟩
   have hN:Pl.numText (k:Int)=Pl.dec k:=by
    unfold Pl.numText
    rw [if_neg hm,if_neg h0]
    congr 1
   rw [hN]
   have HC:=Z (fun W=>digitsR k (by omega) W)
   generalize Pl.dec k=ds at *
   clear hN hm hr
   go_enter Tryz.func90,Tryz.ntmps90
   go_wp2_with fail
   refine ((U HC) _).mono ?_
   rintro e w1 ⟨rfl,rfl⟩
   clear HC
   go_wp2_with fail
   go_ret
   exact ⟨rfl,HB.out _⟩
theorem writtenPlain (v:Pl.V)(hv:Pl.okV v)(hk:v.kind=0\/v.kind=3)(w:World):Calls Tryz.prog 90 #[aggR v] w fun e w'=>e=.returned (.string ⟨(Pl.valText v).toArray⟩)/\Below w.heap.size w w':=by
 have HB:Hid (∀ o,Below w.heap.size w (w.alloc o)):=fun o=>(Below.refl _ _).alloc (Nat.le_refl _) _
 obtain ⟨k,n,s⟩:=v
 simp only at hk
 unfold aggR
 simp only
 generalize (⟨s.toArray⟩:ByteArray)=bs
 rcases hk with rfl|rfl
 ·rw [show Pl.valText ⟨0,n,s⟩=[78,85,76,76] by unfold Pl.valText;simp]
  clear hv
  go_enter Tryz.func90,Tryz.ntmps90
  go_wp2_with fail
  go_ret
  exact ⟨rfl,HB.out _⟩
 ·have hn:n=0\/n=1:=by rcases hv with h|h|h|h <;> simp at h <;> omega
  clear hv
  rcases hn with rfl|rfl
  ·rw [show Pl.valText ⟨3,0,s⟩=[70,65,76,83,69] by unfold Pl.valText;simp]
   go_enter Tryz.func90,Tryz.ntmps90
   go_wp2_with fail
   go_ret
   exact ⟨rfl,HB.out _⟩
  ·rw [show Pl.valText ⟨3,1,s⟩=[84,82,85,69] by unfold Pl.valText;simp]
   go_enter Tryz.func90,Tryz.ntmps90
   go_wp2_with fail
   go_ret
   exact ⟨rfl,HB.out _⟩
theorem ext_byte (l:List UInt8)(i:Nat)(h:i<l.length):(⟨l.toArray⟩:ByteArray).extract i (i+1)=⟨[l[i]].toArray⟩:=ext_one ⟨l.toArray⟩ i h
theorem quote_snoc (l:List UInt8)(c:UInt8):Pl.quote (l++[c])=Pl.quote l++if c=39 then [39,39] else [c]:=by
 induction l with
 | nil=>simp [Pl.quote]
 | cons a r ih =>
  simp only [List.cons_append,Pl.quote,ih]
  split <;> simp
theorem qLen (l:List UInt8):(Pl.quote l).length<=2*l.length:=by
 induction l with
 | nil=>simp [Pl.quote]
 | cons a r ih=>simp only [Pl.quote];split <;> simp <;> omega
theorem writtenText (v:Pl.V)(hv:Pl.okV v)(hk:v.kind=2)(w:World):Calls Tryz.prog 90 #[aggR v] w fun e w'=>e=.returned (.string ⟨(Pl.valText v).toArray⟩)/\Below w.heap.size w w':=by
 have HB:Hid (∀ o,Below w.heap.size w (w.alloc o)):=fun o=>(Below.refl _ _).alloc (Nat.le_refl _) _
 obtain ⟨k,n,s⟩:=v
 simp only at hk
 subst hk
 have hl:s.length<=40:=by rcases hv with h|h|h|h <;> simp at h <;> omega
 rw [show Pl.valText ⟨2,n,s⟩=39 :: (Pl.quote s++[39]) by unfold Pl.valText;simp]
 unfold aggR
 simp only
 clear hv
 go_enter Tryz.func90,Tryz.ntmps90
 go_upto_region 5 with fail
 generalize hW:w.alloc (.cells #[.int .i64 2,.int .i64 n,.string ⟨s.toArray⟩] 34)=w1 at *
 have hx:=blk_new w (.cells #[.int .i64 2,.int .i64 n,.string ⟨s.toArray⟩] 34)
 rw [hW] at hx
 have HBw:=Z (HB.out (.cells #[.int .i64 2,.int .i64 n,.string ⟨s.toArray⟩] 34))
 rw [hW] at HBw
 have hxz:=lB hx
 have x0:=bC hx 0
 have x1:=bC hx 1
 have x2:=bC hx 2
 simp at x0 x1 x2
 clear hW hx HB
 go_wp2_with fail
 go_loop [3,4] (fun a b=>∃ i:Nat,i<=s.length/\a=.string ⟨(39 :: Pl.quote (s.take i)).toArray⟩/\b=.int .i64 i) (fun _ b=>s.length - (intOf b).toNat)
 case atStart=>exact ⟨0,Nat.zero_le _,by simp [Pl.quote],rfl⟩
 case round =>
  obtain ⟨i,hi,rfl,rfl⟩:=hrel
  by_cases hlt:i<s.length
  ·have HX:=Z (ext_byte s i hlt)
   have HQ:Hid (Pl.quote (s.take (i+1))=Pl.quote (s.take i)++if s[i]=39 then [39,39] else [s[i]]):=by
    unfold Hid
    rw [List.take_add_one,List.getElem?_eq_getElem hlt]
    exact quote_snoc _ _
   have hql:=qLen (s.take i)
   have hqi:(s.take i).length<=40:=by simp;omega
   go_upto_region 10 with fail
   rw [HX.out,cat2']
   by_cases hq:s[i]=39
   ·have hq1:((({ data:=s.toArray }:ByteArray)[i]'hlt).toNat:Int)=39:=by
     show ((s[i].toNat:Nat):Int)=39
     rw [hq];rfl
    have hq':(((({ data:=s.toArray }:ByteArray)[i]'hlt).toNat:Int) == 39)=true:=by simp [hq1]
    have hq2:(((s[i].toNat:Nat):Int) == 39)=true:=hq'
    rw [if_pos hq] at HQ
    have HS:Hid (({ data:=(39 :: Pl.quote (s.take i)++[s[i]]).toArray }:ByteArray)++{ data:=#[39] }=⟨(39 :: Pl.quote (s.take (i+1))).toArray⟩):=by
     unfold Hid
     rw [HQ.out,hq]
     have:=cat2' (39 :: Pl.quote (s.take i)++[39]) [39]
     rw [this]
     simp
    have hzz:(39 :: Pl.quote (s.take i)++[s[i]]).length<=100:=by simp;omega
    generalize (39 :: Pl.quote (s.take i)++[s[i]])=cur at *
    clear hq hq1 HQ HX hql hqi
    go_wp2_with fail
    go_round
    case rel=>exact ⟨i+1,by omega,by rw [HS.out],by go_num⟩
    case measure=>simp [intOf];omega
   ·have hq1:¬ ((({ data:=s.toArray }:ByteArray)[i]'hlt).toNat:Int)=39:=by
     show ¬ ((s[i].toNat:Nat):Int)=39
     intro h
     apply hq
     apply UInt8.toNat_inj.1
     have:s[i].toNat=39:=by omega
     rw [this];rfl
    have hq':(((({ data:=s.toArray }:ByteArray)[i]'hlt).toNat:Int) == 39)=false:=by simp [hq1]
    have hq2:(((s[i].toNat:Nat):Int) == 39)=false:=hq'
    rw [if_neg hq] at HQ
    have HS:Hid (39 :: Pl.quote (s.take i)++[s[i]]=39 :: Pl.quote (s.take (i+1))):=by
     unfold Hid
     rw [HQ.out]
     simp
    rw [HS.out]
    clear hq hq1 HQ HX hql hqi HS
    go_wp2_with fail
    go_round
    case rel=>exact ⟨i+1,by omega,rfl,by go_num⟩
    case measure=>simp [intOf];omega
  ·obtain rfl:i=s.length:=by omega
   rw [List.take_length]
   have hql:=qLen s
   have HEq:=Z (cat2' (39 :: Pl.quote s) [39])
   go_wp2_with fail
   go_ret
   exact ⟨ret_str (by simpa using HEq.out),HBw.out⟩
theorem writtenR (v:Pl.V)(hv:Pl.okV v)(w:World):Calls Tryz.prog 90 #[aggR v] w fun e w'=>e=.returned (.string ⟨(Pl.valText v).toArray⟩)/\Below w.heap.size w w':=by
 have:=hv.kind
 by_cases h1:v.kind=1
 ·exact writtenNum v hv h1 w
 ·by_cases h2:v.kind=2
  ·exact writtenText v hv h2 w
  ·exact writtenPlain v hv (by omega) w
end Go.Proofs.YtojdpjpldokjmaaGreatDoor
