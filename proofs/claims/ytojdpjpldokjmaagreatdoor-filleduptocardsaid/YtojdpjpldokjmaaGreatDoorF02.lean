/- Rows in memory that a call owns. -/
import Derived.Test.YtojdpjpldokjmaaGreatDoorF01
import Derived.Deep.RegionWith
import Derived.Deep.DeepFit
import Derived.Deep.DeepCutAuto
import Derived.Deep.LoopGhost
import Derived.Deep.Trees
import Derived.Test.YtojdpjpldokjmaaGreatDoorF00
set_option maxHeartbeats 60000000
set_option maxRecDepth 100000
namespace Go.Proofs.YtojdpjpldokjmaaGreatDoor
open Go.RowKit Go.Deep
set_option linter.unusedSimpArgs false
set_option linter.unusedVariables false
theorem Keeps.cell {rb:Nat}{w w':World}(h:Keeps rb w w'){k o:Nat}(hk:k<w.heap.size)(hne:k≠rb):w'.cell? ⟨k,o,none⟩=w.cell? ⟨k,o,none⟩ :=
 World.cell?_of_block (w:=w) (h.block k hk hne)
theorem blk_new' (w:World)(o:Obj)(n:Nat)(hn:n=w.heap.size):(w.alloc o).heap[n]?=some o:=by subst hn;exact blk_new w o
theorem size_set (w:World)(a:Addr)(v:Value):(w.setCell a v).heap.size=w.heap.size:=by simp [World.setCell]
theorem own_row {w:World}{base:Nat}{e:TypeId}{size n:Nat}{v:Value}{xs:List Value}(h:w.ownsRow base e size v n xs):∀ k,v.ownBlock=some k->∃ cur,w.heap[k]?=some (.cells cur e (0,0)):=by
 intro k hk
 rcases h.2 with ⟨rfl,_⟩|⟨g,cap,cur,rfl,_,hh,_⟩
 ·cases hk
 ·simp [Value.ownBlock] at hk;subst hk;exact ⟨cur,hh⟩
theorem Keeps.grown {rb:Nat}{w a b:World}{row:Option Nat}(h:Keeps rb w a)(hg:a.grownBy b row)(hr:∀ k,row=some k->w.heap.size<=k):Keeps rb w b :=
 ⟨hg.os.trans h.os,hg.tape.trans h.tape,hg.output.trans h.output,Nat.le_trans h.size hg.size,fun i hi hne=>(hg.block i (Nat.lt_of_lt_of_le hi h.size) (fun e=>by have:=hr i e.symm;omega)).trans (h.block i hi hne)⟩
theorem own_keeps {w w':World}{rb base:Nat}{e:TypeId}{size n:Nat}{v:Value}{xs:List Value}(hk:Keeps rb w w')(hb:rb<base)(h:w.ownsRow base e size v n xs):w'.ownsRow base e size v n xs:=by
 obtain ⟨h1,h2⟩:=h
 refine ⟨h1,?_⟩
 rcases h2 with h2|⟨g,cap,cur,hv,hg,hh,r⟩
 ·exact .inl h2
 ·exact .inr ⟨g,cap,cur,hv,hg,hk.blk (by omega) hh,r⟩
theorem own_slice {w:World}{base:Nat}{e:TypeId}{size n:Nat}{v:Value}{xs:List Value}(h:w.ownsRow base e size v n xs):∃ a m c,v=.slice a m c:=by
 rcases h.2 with ⟨rfl,_⟩|⟨g,cap,cur,rfl,_⟩
 ·exact ⟨_,_,_,rfl⟩
 ·exact ⟨_,_,_,rfl⟩
theorem addr_add (n j:Nat):(⟨n,0,none⟩:Addr).add j=⟨n,j,none⟩:=by
 unfold Addr.add;split <;> simp_all
theorem news_at (w:World)(C:List Value)(t:TypeId):∀ j u,C[j]?=some u->(w.alloc (.cells C.toArray t)).cell? ((⟨w.heap.size,0,none⟩:Addr).add j)=some u:=by
 intro j u hj
 rw [addr_add,bC (blk_new w _)]
 simpa using hj
theorem Tryz.infoByte:(Tryz.prog.info? 5).map (fun i=>(i.zero,i.size,i.bytes))=some (some (.int .u8 0),1,1):=by kernel_rfl
def byteCells (l:List UInt8):List Value:=l.map (fun c=>Value.int .u8 c.toNat)
theorem own_slice1 {w:World}{base:Nat}{e:TypeId}{size n:Nat}{v:Value}{xs:List Value}(h:w.ownsRow base e size v n xs):∃ a c,v=.slice a n c:=by
 rcases h.2 with ⟨rfl,rfl⟩|⟨g,cap,cur,rfl,_⟩
 ·exact ⟨none,0,rfl⟩
 ·exact ⟨_,_,rfl⟩
theorem conv_own {w:World}{base c:Nat}{a:Option Addr}{l:List UInt8}(h:w.ownsRow base 5 1 (.slice a l.length c) l.length (byteCells l)) :
 (convert 83 9 (.slice a l.length c)).run Tryz.prog w=.ok (.string ⟨l.toArray⟩) w:=by
 rcases h.2 with ⟨e,h0⟩|⟨g,cap,cur,e,_,_⟩
 ·injection e with e1 e2 e3
  subst e1
  have:l=[]:=by simpa using h0
  subst this
  exact run_convert_bytes_nil (P:=Tryz.prog) w 83 5 Tryz.underlying83 Tryz.underlying5 _ _ 9 Tryz.underlying9
 ·injection e with e1 e2 e3
  subst e1
  have hc:=h.cells (g:=g) rfl
  have:=run_convert_bytes_arg (P:=Tryz.prog) w 83 5 Tryz.underlying83 Tryz.underlying5 g 0 l.length c (l.map (fun c=>(c.toNat:Int))) (by simp) (by
   intro i hi
   have h2:=hc i (.int .u8 l[i].toNat) (by unfold byteCells;simp [hi])
   have hadd:(⟨g,0,none⟩:Addr).add i=⟨g,0+i,none⟩:=by unfold Addr.add;split <;> simp_all
   rw [hadd] at h2
   rw [h2]
   simp [List.getD_eq_getElem?_getD,hi]) 9 Tryz.underlying9
  rw [this]
  unfold strOfNums
  rw [List.map_map,show l.map ((fun n:Int=>UInt8.ofNat n.toNat) ∘ fun c:UInt8=>(c.toNat:Int))=l from (List.map_congr_left (fun c _=>by simp)).trans (List.map_id l)]
theorem closed_any (l:List UInt8)(v:Value)(k:Int)(base:Nat)(w:World)(hl:l.length<=1048576)(hown:w.ownsRow base 5 1 v l.length (byteCells l)) :
 Calls Tryz.prog 207 #[v,.int .i64 k] w fun e w'=>e=.returned (if 40<l.length then .tuple #[Pl.tok0,.int .i64 0] else .tuple #[.agg #[.int .i64 3,.int .i64 0,.string ⟨l.toArray⟩],.int .i64 k])/\Below w.heap.size w w':=by
 obtain ⟨a,c,rfl⟩:=own_slice1 hown
 by_cases h40:40<l.length
 ·rw [if_pos h40]
  clear hown
  go_enter Tryz.func207,Tryz.ntmps207
  go_wp2_with fail
  refine bodyPost_ret (v:=.tuple #[Pl.tok0,.int .i64 0]) ?_ rfl ⟨rfl,(Below.refl _ _).alloc (Nat.le_refl _) _⟩
  simp [results,Tryz.results207,go_sem,Pl.tok0]
 ·rw [if_neg h40]
  have hcv:=conv_own (hown.alloc (.cells #[.int .i64 0,.int .i64 0,.string ⟨#[]⟩] 180))
  clear hown
  go_enter Tryz.func207,Tryz.ntmps207
  go_wp2_with fail
  refine bodyPost_ret (v:=.tuple #[.agg #[.int .i64 3,.int .i64 0,.string ⟨l.toArray⟩],.int .i64 k]) ?_ rfl ⟨rfl,?_⟩
  ·simp [results,Tryz.results207,go_sem]
  ·exact (Below.refl _ _).alloc (Nat.le_refl _) _
def litIn (s:ByteArray)(k:Nat)(acc:List UInt8):Prop:=Pl.litTok [] (Pl.from_ s 1)=Pl.litTok acc (Pl.from_ s k)
theorem litIn_plain {s:ByteArray}{k:Nat}{acc:List UInt8}(hlt:k<s.size)(h:litIn s k acc)(hc:s[k].toNat≠39):litIn s (k+1) (acc++[s[k]]):=by
 unfold litIn at *
 rw [h,Pl.from_lt s k hlt]
 by_cases h2:k+1<s.size
 ·rw [Pl.from_lt s (k+1) h2,Pl.litTok,if_neg hc]
 ·rw [Pl.from_ge s (k+1) (by omega)]
  simp [Pl.litTok,hc]
theorem litIn_two {s:ByteArray}{k:Nat}{acc:List UInt8}(hlt:k+1<s.size)(h:litIn s k acc)(hc:s[k].toNat=39)(hd:s[k+1].toNat=39):litIn s (k+2) (acc++[s[k+1]]):=by
 unfold litIn at *
 rw [h,Pl.from_lt s k (by omega),Pl.from_lt s (k+1) hlt,Pl.litTok,if_pos hc,if_pos hd,byte39 hc,byte39 hd]
theorem litIn_end {s:ByteArray}{k:Nat}{acc:List UInt8}(hlt:k<s.size)(h:litIn s k acc)(hc:s[k].toNat=39)(hd:¬ k+1<s.size\/∃ h:k+1<s.size,s[k+1].toNat≠39) :
 Pl.litTok [] (Pl.from_ s 1)=(if 40<acc.length then Pl.bad else ⟨3,0,acc⟩,Pl.from_ s (k+1)):=by
 unfold litIn at h
 rw [h,Pl.from_lt s k hlt]
 rcases hd with hd|⟨h2,hd⟩
 ·rw [Pl.from_ge s (k+1) (by omega),Pl.litTok,if_pos hc]
 ·rw [Pl.from_lt s (k+1) h2,Pl.litTok,if_pos hc,if_neg hd]
theorem litIn_none {s:ByteArray}{k:Nat}{acc:List UInt8}(hlt:¬ k<s.size)(h:litIn s k acc):(Pl.litTok [] (Pl.from_ s 1)).1.k=99:=by
 unfold litIn at h
 rw [h,Pl.from_ge s k (by omega),Pl.litTok];rfl
theorem pre2 (s:ByteArray)(k:Nat)(hk:k<s.size)(hc:s[k].toNat=39):List.isPrefixOf [39,39] (s.extract k s.size).data.toList=true ↔ ∃ h:k+1<s.size,s[k+1].toNat=39:=by
 have e:(s.extract k s.size).data.toList=Pl.from_ s k:=by
  rw [ext_list,List.take_of_length_le (by simp)];rfl
 rw [e,Pl.from_lt s k hk]
 by_cases h2:k+1<s.size
 ·rw [Pl.from_lt s (k+1) h2]
  simp only [List.isPrefixOf,Bool.and_eq_true,beq_iff_eq]
  constructor
  ·rintro ⟨_,h,_⟩;exact ⟨h2,by rw [<- h];rfl⟩
  ·rintro ⟨_,h⟩;exact ⟨(byte39 hc).symm,(byte39 h).symm,trivial⟩
 ·rw [Pl.from_ge s (k+1) (by omega)]
  simp [List.isPrefixOf,h2]
theorem push_byte {w wr w2:World}{acc:List UInt8}{c:UInt8}{v v':Value}{C:Array Value}{t:TypeId}{X:Obj}(hown:wr.ownsRow (w.heap.size+1) 5 1 v acc.length (byteCells acc))(hbx:wr.heap[w.heap.size]?=some X)(hW:Below w.heap.size w wr)
 (hown2:w2.ownsRow (w.heap.size+1) 5 1 v' (acc.length+1) (byteCells acc++[.int .u8 (c.toNat:Nat)])) (hg:(wr.alloc (.cells C t)).grownBy w2 v.ownBlock) :
 w2.ownsRow (w.heap.size+1) 5 1 v' (acc++[c]).length (byteCells (acc++[c]))/\Hid (w2.heap[w.heap.size]?=some X)/\Hid (Below w.heap.size w w2):=by
 have hlt:∀ k,v.ownBlock=some k->w.heap.size+1<=k:=fun k e=>(hown.lt k e).1
 have hz:=lB hbx
 refine ⟨by unfold byteCells at *;simpa using hown2,?_,?_⟩
 ·show w2.heap[w.heap.size]?=some X
  rw [hg.block w.heap.size (by simp;omega) (fun e=>by have:=hlt _ e.symm;omega)]
  exact bA hbx _
 ·exact (hW.alloc hW.size _).trans ⟨hg.os,hg.tape,hg.output,hg.size,fun i hi=>hg.block i (by simp;omega) (fun e=>by have:=hlt _ e.symm;omega)⟩
theorem quoted_any (X:LexLib)(s:ByteArray)(w:World)(hs:s.size<=1048576)(h1:0<s.size) :
 Calls Tryz.prog 147 #[.string s] w fun e w'=>e=.returned (Pl.cut1 (Pl.litTok [] (Pl.from_ s 1)) s.data.toList)/\Below w.heap.size w w':=by
 have HX:=Z X.pre
 obtain ⟨i0,hi,hz0,hz1,hz2⟩:=info_parts Tryz.infoByte
 clear X
 go_enter Tryz.func147,Tryz.ntmps147
 go_wp2_with fail
 go_loopw [4,5] (fun v a wr=>∃ (k:Nat) (acc:List UInt8),1<=k/\k<=s.size/\acc.length<=k/\a=.int .i64 k/\Hid (litIn s k acc)/\wr.ownsRow (w.heap.size+1) 5 1 v acc.length (byteCells acc)/\Hid (wr.heap[w.heap.size]?=some (.cells #[.int .i64 0,.int .i64 0,.string ⟨#[]⟩] 180))/\Hid (Below w.heap.size w wr)) (fun _ a _=>s.size - (intOf a).toNat)
 case atStart=>exact ⟨1,[],by omega,by omega,by simp,rfl,rfl,World.ownsRow_nil _ _ _ _,blk_new _ _,(Below.refl _ _).alloc (Nat.le_refl _) _⟩
 case round =>
  obtain ⟨k,acc,hk,hks,hal,rfl,HL,hown,HB,HW⟩:=hrel
  obtain ⟨va,vc,rfl⟩:=own_slice1 hown
  have hzr:w.heap.size<wr.heap.size:=lB HB.out
  by_cases hlt:k<s.size
  ·by_cases hc:s[k].toNat=39
   ·have HP:=Z (pre2 s k hlt hc)
    have HC:Hid (∀ w,Calls Tryz.prog 206 #[.string (s.extract k s.size),.string ⟨#[39,39]⟩] w fun e w'=>e=.returned (.bool (List.isPrefixOf [39,39] (s.extract k s.size).data.toList))/\w'=w):=fun w=>HX.out _ _ w
    have hc':(((s[k].toNat:Nat):Int) == 39)=true:=by simp;omega
    cases hp:List.isPrefixOf [39,39] (s.extract k s.size).data.toList
    ·have HE:=Z (litIn_end hlt HL.out hc (by
      by_cases h2:k+1<s.size
      ·exact .inr ⟨h2,fun h=>by rw [HP.out.2 ⟨h2,h⟩] at hp;cases hp⟩
      ·exact .inl h2))
     have HCL:=Z (fun w1 (h:wr=w1)=>h ▸ closed_any acc (.slice va acc.length vc) ((k:Int)+1) _ wr (by omega) hown)
     have hbx:=HB.out
     have b0:=bC hbx 0
     have b1:=bC hbx 1
     have b2:=bC hbx 2
     have bf:=bF hbx
     simp at b0 b1 b2
     clear hown hc
     by_cases h40:40<acc.length
     ·rw [if_pos h40] at HCL
      have HV:Hid (Pl.cut1 (Pl.litTok [] (Pl.from_ s 1)) s.data.toList=.tuple #[Pl.tok0,.int .i64 0]):=Pl.cut1_bad (by rw [HE.out,if_pos h40];rfl)
      go_wp2_with fail
      refine (U HC _).mono ?_
      rintro e w1 ⟨rfl,rfl⟩
      rw [hp]
      go_wp2_with fail
      refine (U HCL _ rfl).mono ?_
      rintro e w2 ⟨rfl,hb⟩
      obtain ⟨c1,f1⟩:=bcell hb
      unfold Pl.tok0
      go_wp2_with fail
      refine bodyPost_ret (v:=.tuple #[Pl.tok0,.int .i64 0]) ?_ rfl ⟨by rw [HV.out],?_⟩
      ·simp [results,Tryz.results147,go_sem,Pl.tok0,c1,hzr,b0,b1,b2]
      ·exact below_box (HW.out.trans (hb.mono (by omega))) _ _ _
     ·rw [if_neg h40] at HCL
      have HV:Hid (Pl.cut1 (Pl.litTok [] (Pl.from_ s 1)) s.data.toList=.tuple #[.agg #[.int .i64 3,.int .i64 0,.string ⟨acc.toArray⟩],.int .i64 ((k:Int)+1)]):=by
       unfold Hid
       rw [HE.out,if_neg h40,Pl.cut1_ok (by show (3:Nat)≠99;decide),Pl.cTok_eq]
       simp only
       rw [show (s.data.toList.length - (Pl.from_ s (k+1)).length:Nat)=k+1 by unfold Pl.from_;simp;omega]
       rfl
      go_wp2_with fail
      refine (U HC _).mono ?_
      rintro e w1 ⟨rfl,rfl⟩
      rw [hp]
      go_wp2_with fail
      refine (U HCL _ rfl).mono ?_
      rintro e w2 ⟨rfl,hb⟩
      obtain ⟨c1,f1⟩:=bcell hb
      go_wp2_with fail
      refine bodyPost_ret (v:=.tuple #[.agg #[.int .i64 3,.int .i64 0,.string ⟨acc.toArray⟩],.int .i64 ((k:Int)+1)]) ?_ rfl ⟨by rw [HV.out],?_⟩
      ·simp [results,Tryz.results147,go_sem,c1,hzr,b0,b1,b2]
      ·exact below_box (HW.out.trans (hb.mono (by omega))) _ _ _
    ·obtain ⟨h2,hd⟩:=HP.out.1 hp
     have HR:=Z (litIn_two h2 HL.out hc hd)
     clear hc HL hd
     go_wp2_with fail
     refine (U HC _).mono ?_
     rintro e w1 ⟨rfl,rfl⟩
     rw [hp]
     go_wp2_with (at_builtin;refine wpList_append_own _ rfl (.tmp 29) (.tmp 33) 83 rfl (w.heap.size+1) 5 i0 _ 1 1 Tryz.underlying83 hi hz0 hz1 hz2 rfl (by decide) _ _ _ rfl (hown.alloc _) ⟨w1.heap.size,0,none⟩ 1 1 [.int .u8 (s[k+1].toNat:Nat)] rfl rfl ?c1 ?c2 ?c3 ?c4 ?c5 ?_)
     case c1=>exact news_at w1 [.int .u8 (s[k+1].toNat:Nat)] 5
     case c2=>intro u hu;simp at hu;subst hu;rfl
     case c3=>unfold maxLen;omega
     case c4=>omega
     case c5=>simp;omega
     intro v' w2 hown2 hg2 hnil
     obtain ⟨ho2,hb2,hw2⟩:=push_byte hown HB.out HW.out hown2 hg2
     clear hown hown2 hg2 hnil
     go_wp2_with fail
     go_roundw
     case rel=>exact ⟨k+2,acc++[s[k+1]],by omega,by omega,by simp;omega,by go_num,HR,ho2,hb2,hw2⟩
     case measure=>simp [intOf];omega
   ·have HR:=Z (litIn_plain hlt HL.out hc)
    have hc':(((s[k].toNat:Nat):Int) == 39)=false:=by simp;omega
    clear hc HL
    go_wp2_with (at_builtin;refine wpList_append_own _ rfl (.tmp 29) (.tmp 33) 83 rfl (w.heap.size+1) 5 i0 _ 1 1 Tryz.underlying83 hi hz0 hz1 hz2 rfl (by decide) _ _ _ rfl (hown.alloc _) ⟨wr.heap.size,0,none⟩ 1 1 [.int .u8 (s[k].toNat:Nat)] rfl rfl ?c1 ?c2 ?c3 ?c4 ?c5 ?_)
    case c1=>exact news_at wr [.int .u8 (s[k].toNat:Nat)] 5
    case c2=>intro u hu;simp at hu;subst hu;rfl
    case c3=>unfold maxLen;omega
    case c4=>omega
    case c5=>simp;omega
    intro v' w2 hown2 hg2 hnil
    obtain ⟨ho2,hb2,hw2⟩:=push_byte hown HB.out HW.out hown2 hg2
    clear hown hown2 hg2 hnil
    go_wp2_with fail
    go_roundw
    case rel=>exact ⟨k+1,acc++[s[k]],by omega,by omega,by simp;omega,by go_num,HR,ho2,hb2,hw2⟩
    case measure=>simp [intOf];omega
  ·have HV:=Z (Pl.cut1_bad (l:=s.data.toList) (litIn_none hlt HL.out))
   have hbx:=HB.out
   have b0:=bC hbx 0
   have b1:=bC hbx 1
   have b2:=bC hbx 2
   have bf:=bF hbx
   simp at b0 b1 b2
   clear hown HL
   go_wp2_with fail
   refine bodyPost_ret (v:=.tuple #[Pl.tok0,.int .i64 0]) ?_ rfl ⟨by rw [HV.out],?_⟩
   ·simp [results,Tryz.results147,go_sem,Pl.tok0,hzr,b0,b1,b2]
   ·exact below_box HW.out _ _ _
open Go.RowKit
def RS (w:World)(rb:Nat)(s:ByteArray)(p d:Nat)(b:Bool):Prop :=
 w.heap[rb]?=some (.cells #[.string s,.int .i64 p,.int .i64 d,.bool b] 148)
theorem RS.c {w:World}{rb:Nat}{s:ByteArray}{p d:Nat}{b:Bool}(h:RS w rb s p d b) :
 w.cell? ⟨rb,0,none⟩=some (.string s)/\w.cell? ⟨rb,1,none⟩=some (.int .i64 p)/\w.cell? ⟨rb,2,none⟩=some (.int .i64 d)/\w.cell? ⟨rb,3,none⟩=some (.bool b)/\(∀ o,w.frozen? ⟨rb,o,none⟩=false) :=
 ⟨bC h 0,bC h 1,bC h 2,bC h 3,bF h⟩
def fitB (t:Pl.Tok)(str:ByteArray)(b:Bool):Bool:=!b && ((Pl.refB t).toList == str.toList) && (Pl.refK t.k == 107 || Pl.refK t.k == 115)
def fitTo (l:List UInt8)(str:ByteArray)(b:Bool):List UInt8:=if fitB (Pl.look l).1 str b=true then (Pl.look l).2 else l
def laidTok (w wx:World)(tb:Nat)(t:Pl.Tok):Prop :=
 w.heap.size<=tb/\wx.heap[tb]?=some (.cells #[.int .u8 (Pl.refK t.k),.string (Pl.refB t),.int .i64 (Pl.refN t)] 151)/\Below w.heap.size w wx
theorem laid_late {w w1:World}(t:Pl.Tok)(hb:Below w.drew.heap.size w.drew w1) :
 laidTok w (w1.alloc (.cells #[.int .u8 (Pl.refK t.k),.string (Pl.refB t),.int .i64 (Pl.refN t)] 151)) w1.heap.size t:=by
 have hb':Below w.heap.size w w1:=(Below.refl _ _).drew.trans hb
 exact ⟨hb'.size,blk_new _ _,hb'.alloc hb'.size _⟩
theorem laid_early {w w1:World}(t:Pl.Tok){x y z:Value}(hb:Below ((w.alloc (.cells #[x,y,z] 151)).drew).heap.size ((w.alloc (.cells #[x,y,z] 151)).drew) w1) :
 laidTok w (((w1.setCell ⟨w.heap.size,0,none⟩ (.int .u8 (Pl.refK t.k))).setCell ⟨w.heap.size,1,none⟩ (.string (Pl.refB t))).setCell ⟨w.heap.size,2,none⟩ (.int .i64 (Pl.refN t))) w.heap.size t:=by
 have h0:w1.heap[w.heap.size]?=some (.cells #[x,y,z] 151):=bB hb (by simp [World.drew]) (blk_new w _)
 have hb':Below w.heap.size w w1:=(((Below.refl _ _).alloc (Nat.le_refl _) _).drew).trans (hb.mono (by simp [World.drew]))
 refine ⟨Nat.le_refl _,?_,below_box hb' _ _ _⟩
 have:=bS (bS (bS h0 0 (.int .u8 (Pl.refK t.k))) 1 (.string (Pl.refB t))) 2 (.int .i64 (Pl.refN t))
 simpa using this
theorem fits_any (rb:Nat)(s:ByteArray)(p d:Nat)(b:Bool)(str:ByteArray)(w:World)(hR:RS w rb s p d b)(hp:p<=s.size)(hs:s.size<=1048576) :
 Calls Tryz.prog 76 #[.pointer (some ⟨rb,0,none⟩),.string str] w fun e w'=>∃ q:Nat,e=.returned (.bool (fitB (Pl.look (Pl.from_ s p)).1 str b))/\RS w' rb s q d b/\p<=q/\q<=s.size /\
  Pl.from_ s q=fitTo (Pl.from_ s p) str b/\Keeps rb w w':=by
 obtain ⟨g0,g1,g2,g3,gf⟩:=hR.c
 have hrb:rb<w.heap.size:=lB hR
 have HR:Hid (RS w rb s p d b):=hR
 clear hR
 go_enter Tryz.func76,Tryz.ntmps76
 go_upto_region 1 with fail
 go_cut [5,6] (fun s5 s6 wx=>∃ tb q:Nat,s5=.pointer (some ⟨tb,0,none⟩)/\s6=.int .i64 q/\p<=q/\q<=s.size/\Hid (Pl.from_ s q=(Pl.look (Pl.from_ s p)).2)/\laidTok w wx tb (Pl.look (Pl.from_ s p)).1)
 case first =>
  go_region_with (go_at_call 77;refine (look_any s p _ hp hs).mono ?_;rintro e w1 ⟨q,rfl,hpq,hqs,hq,hb1⟩;have HQ:Hid (Pl.from_ s q=(Pl.look (Pl.from_ s p)).2):=hq;clear hq;obtain ⟨c1,f1⟩:=bcell hb1;have z1:=hb1.size;rw [Pl.refTok_eq])
  all_goals
   go_wp2_with fail
   go_meet
   first|exact ⟨_,q,rfl,rfl,hpq,hqs,HQ,laid_late _ hb1⟩|exact ⟨_,q,rfl,rfl,hpq,hqs,HQ,laid_early _ hb1⟩
 case rest =>
  obtain ⟨tb,q,rfl,rfl,hpq,hqs,HQ,htb,hblk,hbel⟩:=hcut
  have hR1:RS wc rb s p d b:=bB hbel hrb HR.out
  obtain ⟨r0,r1,r2,r3,rf⟩:=hR1.c
  have HR1:Hid (RS wc rb s p d b):=hR1
  have t0:=bC hblk 0
  have t1:=bC hblk 1
  clear hR1 g0 g1 g2 g3 gf hblk
  have hne:¬ tb=rb:=by omega
  have kw:Keeps rb w wc:=(Keeps.refl _ _).below hbel
  generalize HT:(Pl.look (Pl.from_ s p)).1=t at *
  have HT':Hid ((Pl.look (Pl.from_ s p)).1=t):=HT
  clear HT
  have HFB:Hid (fitB t str b=(!b && ((Pl.refB t).toList == str.toList) && (Pl.refK t.k == 107 || Pl.refK t.k == 115))):=rfl
  generalize Pl.refK t.k=K at *
  generalize Pl.refB t=B at *
  simp at t0 t1
  have yes:fitB t str b=true->Pl.from_ s q=fitTo (Pl.from_ s p) str b:=fun h=>by unfold fitTo;rw [HT'.out,h,if_pos rfl,HQ.out]
  have no:fitB t str b=false->Pl.from_ s p=fitTo (Pl.from_ s p) str b:=fun h=>by unfold fitTo;rw [HT'.out,h];rfl
  have HY:Hid (fitB t str b=true->Pl.from_ s q=fitTo (Pl.from_ s p) str b):=yes
  have HN:Hid (fitB t str b=false->Pl.from_ s p=fitTo (Pl.from_ s p) str b):=no
  clear yes no
  have last (x:Bool) (hx:x=false):Hid (fitB t str b=x)->Hid (Ending.returned (.bool false)=.returned (.bool (fitB (Pl.look (Pl.from_ s p)).1 str b))/\RS wc rb s p d b/\p<=p/\p<=s.size/\Pl.from_ s p=fitTo (Pl.from_ s p) str b/\Keeps rb w wc):=fun h=>by
   subst hx
   exact ⟨by rw [HT'.out,h.out],HR1.out,Nat.le_refl _,hp,HN.out h.out,kw⟩
  cases b
  ·cases e1:(B.toList == str.toList)
   ·have L:=last _ rfl (by rw [HFB.out,e1];rfl)
    clear last
    go_wp2_with fail
    go_ret
    exact ⟨p,L.out⟩
   ·cases e2:(K == 107) <;> cases e3:(K == 115)
    ·have L:=last _ rfl (by rw [HFB.out,e1,e2,e3];rfl)
     clear last
     have e4:(K != 107)=true:=by simp at e2 ⊢;exact e2
     have e5:(K != 115)=true:=by simp at e3 ⊢;exact e3
     go_wp2_with fail
     go_ret
     exact ⟨p,L.out⟩
    all_goals
     have hf:Hid (fitB t str false=true):=by
      show fitB t str false=true
      rw [HFB.out,e1,e2,e3];rfl
     clear last
     have L:Hid (Ending.returned (.bool true)=.returned (.bool (fitB (Pl.look (Pl.from_ s p)).1 str false))/\RS (wc.setCell ⟨rb,1,none⟩ (.int .i64 q)) rb s q d false/\p<=q/\q<=s.size/\Pl.from_ s q=fitTo (Pl.from_ s p) str false/\Keeps rb w (wc.setCell ⟨rb,1,none⟩ (.int .i64 q))) :=
      ⟨by rw [HT'.out,hf.out],bS HR1.out 1 _,hpq,hqs,HY.out hf.out,kw.set _ _⟩
    ·have e4:(K != 107)=true:=by simp at e2 ⊢;exact e2
     have e5:(K != 115)=false:=by simp at e3 ⊢;exact e3
     go_wp2_with fail
     go_ret
     exact ⟨q,L.out⟩
    ·have e4:(K != 107)=false:=by simp at e2 ⊢;exact e2
     go_wp2_with fail
     go_ret
     exact ⟨q,L.out⟩
    ·exfalso;simp at e2 e3;omega
  ·have L:=last _ rfl (by rw [HFB.out];rfl)
   clear last
   go_wp2_with fail
   go_ret
   exact ⟨p,L.out⟩
def RT (w:World)(rb:Nat)(s:ByteArray)(ts:List Pl.Tok)(d:Nat)(b:Bool):Prop :=
 ∃ p:Nat,p<=s.size/\s.size<=1048576/\RS w rb s p d b/\Pl.toks (Pl.from_ s p)=ts
theorem RT.lt {w:World}{rb:Nat}{s:ByteArray}{ts:List Pl.Tok}{d:Nat}{b:Bool}(h:RT w rb s ts d b):rb<w.heap.size:=by
 obtain ⟨p,_,_,h,_⟩:=h;exact lB h
theorem RT.blk {w w':World}{rb:Nat}{s:ByteArray}{ts:List Pl.Tok}{d:Nat}{b:Bool}(h:RT w rb s ts d b)(hk:w'.heap[rb]?=w.heap[rb]?):RT w' rb s ts d b:=by
 obtain ⟨p,h1,h2,h3,h4⟩:=h;exact ⟨p,h1,h2,by unfold RS at *;rw [hk,h3],h4⟩
def isK (ts:List Pl.Tok)(k:Nat)(b:Bool):Bool:=!b && (Pl.hd ts).k == k
def toK (ts:List Pl.Tok)(k:Nat)(b:Bool):List Pl.Tok:=if isK ts k b=true then ts.tail else ts
theorem refK_ks (k:Nat):(Pl.refK k == 107 || Pl.refK k == 115)=true ↔ 4<=k/\k<51:=by
 unfold Pl.refK
 by_cases h0:k=0
 ·subst h0;decide
 by_cases h1:k=1
 ·subst h1;decide
 by_cases h2:k=2
 ·subst h2;decide
 by_cases h3:k=3
 ·subst h3;decide
 rw [if_neg h0,if_neg h1,if_neg h2,if_neg h3]
 by_cases h4:k<20
 ·rw [if_pos h4];simp <;> omega
 ·rw [if_neg h4]
  by_cases h5:k<51
  ·rw [if_pos h5];simp <;> omega
  ·rw [if_neg h5];simp <;> omega
theorem ba_toList (l:List UInt8):(⟨l.toArray⟩:ByteArray).toList=l:=by
 rw [ByteArray.toList_eq]
theorem fitB_isK (t:Pl.Tok)(k:Nat)(hk:4<=k)(hk':k<51)(b:Bool):fitB t ⟨(Pl.spell k).toArray⟩ b=(!b && t.k == k):=by
 unfold fitB
 cases b with
 | true=>rfl
 | false =>
  simp only [Bool.not_false,Bool.true_and]
  by_cases h:4<=t.k/\t.k<51
  ·rw [(refK_ks t.k).2 h]
   have hs:Pl.refB t=⟨(Pl.spell t.k).toArray⟩:=by
    unfold Pl.refB Pl.refS;rw [if_neg (by omega)]
   rw [hs,ba_toList,ba_toList,Bool.and_true]
   by_cases e:t.k=k
   ·rw [e];simp
   ·have:Pl.spell t.k≠Pl.spell k:=fun hh=>e (Pl.spell_inj _ _ h.1 h.2 hk hk' hh)
    rw [beq_eq_false_iff_ne.2 this,beq_eq_false_iff_ne.2 e]
  ·have h1:(Pl.refK t.k == 107 || Pl.refK t.k == 115)=false:=by
    rw [Bool.eq_false_iff];intro hh;exact h ((refK_ks t.k).1 hh)
   rw [h1,Bool.and_false]
   have:t.k≠k:=by omega
   simp [this]
theorem fitsT (k:Nat)(hk:4<=k)(hk':k<51)(rb:Nat)(s:ByteArray)(ts:List Pl.Tok)(d:Nat)(b:Bool)(str:ByteArray)(hstr:str=⟨(Pl.spell k).toArray⟩)(w:World)(hR:RT w rb s ts d b) :
 Calls Tryz.prog 76 #[.pointer (some ⟨rb,0,none⟩),.string str] w fun e w'=>e=.returned (.bool (isK ts k b))/\RT w' rb s (toK ts k b) d b/\Keeps rb w w':=by
 obtain ⟨p,hp,hs,hr,rfl⟩:=hR
 subst hstr
 refine (fits_any rb s p d b _ w hr hp hs).mono ?_
 rintro e w' ⟨q,rfl,hr',hpq,hqs,hq,hk2⟩
 have e1:fitB (Pl.look (Pl.from_ s p)).1 ⟨(Pl.spell k).toArray⟩ b=isK (Pl.toks (Pl.from_ s p)) k b:=by
  rw [fitB_isK _ k hk hk'];unfold isK;rw [Pl.toks_hd]
 refine ⟨by rw [e1],⟨q,hqs,hs,hr',?_⟩,hk2⟩
 unfold fitTo at hq
 unfold toK
 rw [e1] at hq
 cases hx:isK (Pl.toks (Pl.from_ s p)) k b
 ·rw [hx] at hq
  rw [hq];rfl
 ·rw [hx] at hq
  simp only [if_true] at hq ⊢
  rw [hq]
  unfold isK at hx
  rw [Pl.toks_hd] at hx
  simp at hx
  rw [Pl.toks_tl _ (by omega) (by omega)]
theorem needT (k:Nat)(hk:4<=k)(hk':k<51)(rb:Nat)(s:ByteArray)(ts:List Pl.Tok)(d:Nat)(b:Bool)(str:ByteArray)(hstr:Hid (str=⟨(Pl.spell k).toArray⟩))(w:World)(hR:RT w rb s ts d b) :
 Calls Tryz.prog 121 #[.pointer (some ⟨rb,0,none⟩),.string str] w fun e w'=>e=.returned (.tuple #[])/\RT w' rb s (toK ts k b) d (!isK ts k b)/\Keeps rb w w':=by
 have C:=fitsT k hk hk' rb s ts d b str hstr.out w hR
 have HC:=Z C
 clear C hR
 have hb:isK ts k b=true->b=false:=by cases b <;> simp [isK]
 cases hx:isK ts k b
 ·go_enter Tryz.func121,Tryz.ntmps121
  go_wp2_with fail
  refine (U HC).mono ?_
  rintro e w1 ⟨rfl,⟨p,hp,hs,hr,ht⟩,hk1⟩
  obtain ⟨r0,r1,r2,r3,rf⟩:=hr.c
  rw [hx]
  go_wp2_with fail
  go_end0
  exact ⟨rfl,⟨p,hp,hs,bS hr 3 _,ht⟩,hk1.set _ _⟩
 ·have hb':=hb hx
  subst hb'
  go_enter Tryz.func121,Tryz.ntmps121
  go_wp2_with fail
  refine (U HC).mono ?_
  rintro e w1 ⟨rfl,hr,hk1⟩
  rw [hx]
  go_wp2_with fail
  go_end0
  exact ⟨rfl,hr,hk1⟩
theorem keeps_box {rb:Nat}{w w1:World}(h:Keeps rb w w1)(a b c:Value):Keeps rb w (((w1.setCell ⟨w.heap.size,0,none⟩ a).setCell ⟨w.heap.size,1,none⟩ b).setCell ⟨w.heap.size,2,none⟩ c) :=
 ((h.setNew (Nat.le_refl _) _).setNew (Nat.le_refl _) _).setNew (Nat.le_refl _) _
theorem rs_box {w w1:World}{rb:Nat}{s:ByteArray}{p d:Nat}{b:Bool}(hne:rb≠w.heap.size)(h:RS w1 rb s p d b)(x y z:Value) :
 RS (((w1.setCell ⟨w.heap.size,0,none⟩ x).setCell ⟨w.heap.size,1,none⟩ y).setCell ⟨w.heap.size,2,none⟩ z) rb s p d b :=
 blk_set_ne (blk_set_ne (blk_set_ne h hne _ _) hne _ _) hne _ _
def ofB (t:Pl.Tok)(c:Int)(b:Bool):Bool:=b || Pl.refK t.k != c
def ofTo (l:List UInt8)(c:Int)(b:Bool):List UInt8:=if ofB (Pl.look l).1 c b=true then l else (Pl.look l).2
theorem laid_early' {w w1:World}(t:Pl.Tok){x y z:Value}(n:Nat)(hn:n=w.heap.size)(hb:Below ((w.alloc (.cells #[x,y,z] 151)).drew).heap.size ((w.alloc (.cells #[x,y,z] 151)).drew) w1) :
 laidTok w (((w1.setCell ⟨n,0,none⟩ (.int .u8 (Pl.refK t.k))).setCell ⟨n,1,none⟩ (.string (Pl.refB t))).setCell ⟨n,2,none⟩ (.int .i64 (Pl.refN t))) n t:=by
 subst hn;exact laid_early t hb
theorem of_any (rb:Nat)(s:ByteArray)(p d:Nat)(b:Bool)(c:Int)(w:World)(hR:RS w rb s p d b)(hp:p<=s.size)(hs:s.size<=1048576) :
 Calls Tryz.prog 183 #[.pointer (some ⟨rb,0,none⟩),.int .u8 c] w fun e w'=>∃ q:Nat,e=.returned (Pl.refTok (Pl.look (Pl.from_ s p)).1)/\RS w' rb s q d (ofB (Pl.look (Pl.from_ s p)).1 c b)/\q<=s.size /\
  Pl.from_ s q=ofTo (Pl.from_ s p) c b/\Keeps rb w w':=by
 have hrb:rb<w.heap.size:=lB hR
 have hR0:RS (w.alloc (.cells #[.int .u8 0,.string { data:=#[] },.int .i64 0] 151)) rb s p d b:=bA hR _
 obtain ⟨g0,g1,g2,g3,gf⟩:=hR.c
 have HR:Hid (RS (w.alloc (.cells #[.int .u8 0,.string { data:=#[] },.int .i64 0] 151)) rb s p d b):=hR0
 clear hR hR0
 go_enter Tryz.func183,Tryz.ntmps183
 go_upto_region 1 with fail
 go_cut [5,6] (fun s5 s6 wx=>∃ tb q:Nat,s5=.pointer (some ⟨tb,0,none⟩)/\s6=.int .i64 q/\p<=q/\q<=s.size/\Hid (Pl.from_ s q=(Pl.look (Pl.from_ s p)).2)/\laidTok (w.alloc (.cells #[.int .u8 0,.string { data:=#[] },.int .i64 0] 151)) wx tb (Pl.look (Pl.from_ s p)).1)
 case first =>
  go_region_with (go_at_call 77;refine (look_any s p _ hp hs).mono ?_;rintro e w1 ⟨q,rfl,hpq,hqs,hq,hb1⟩;have HQ:Hid (Pl.from_ s q=(Pl.look (Pl.from_ s p)).2):=hq;clear hq;obtain ⟨c1,f1⟩:=bcell hb1;have z1:=hb1.size;rw [Pl.refTok_eq])
  all_goals
   go_wp2_with fail
   go_meet
   first|exact ⟨_,q,rfl,rfl,hpq,hqs,HQ,laid_late _ hb1⟩|exact ⟨_,q,rfl,rfl,hpq,hqs,HQ,laid_early' _ _ (by simp) hb1⟩
 case rest =>
  obtain ⟨tb,q,rfl,rfl,hpq,hqs,HQ,htb,hblk,hbel⟩:=hcut
  have z0:w.heap.size<tb:=by simp at htb;omega
  have hR1:RS wc rb s p d b:=bB hbel (by simp;omega) HR.out
  have hbx:wc.heap[w.heap.size]?=some (.cells #[.int .u8 0,.string { data:=#[] },.int .i64 0] 151):=bB hbel (by simp) (blk_new w _)
  obtain ⟨r0,r1,r2,r3,rf⟩:=hR1.c
  have HR1:Hid (RS wc rb s p d b):=hR1
  have t0:=bC hblk 0
  have t1:=bC hblk 1
  have t2:=bC hblk 2
  have x0:=bC hbx 0
  have x1:=bC hbx 1
  have x2:=bC hbx 2
  have xf:=bF hbx
  clear hR1 g0 g1 g2 g3 gf hblk hbx
  have hne:¬ tb=rb:=by omega
  have hne2:¬ tb=w.heap.size:=by omega
  have hne3:¬ rb=w.heap.size:=by omega
  have kw:Keeps rb w wc:=((Keeps.refl rb w).alloc _).below hbel
  have HT:Hid (Pl.refTok (Pl.look (Pl.from_ s p)).1=.agg #[.int .u8 (Pl.refK (Pl.look (Pl.from_ s p)).1.k),.string (Pl.refB (Pl.look (Pl.from_ s p)).1),.int .i64 (Pl.refN (Pl.look (Pl.from_ s p)).1)]):=rfl
  have HB:Hid (ofB (Pl.look (Pl.from_ s p)).1 c b=(b || Pl.refK (Pl.look (Pl.from_ s p)).1.k != c)):=rfl
  have yes:ofB (Pl.look (Pl.from_ s p)).1 c b=true->Pl.from_ s p=ofTo (Pl.from_ s p) c b:=fun h=>by unfold ofTo;rw [h,if_pos rfl]
  have no:ofB (Pl.look (Pl.from_ s p)).1 c b=false->Pl.from_ s q=ofTo (Pl.from_ s p) c b:=fun h=>by unfold ofTo;rw [h,HQ.out];rfl
  have HY:=Z yes
  have HN:=Z no
  clear yes no
  generalize Pl.refK (Pl.look (Pl.from_ s p)).1.k=K at *
  generalize Pl.refB (Pl.look (Pl.from_ s p)).1=B at *
  generalize Pl.refN (Pl.look (Pl.from_ s p)).1=N at *
  simp at t0 t1 t2 x0 x1 x2
  cases e1:(K != c)
  ·cases b
   ·have hf:=HB.out
    rw [e1] at hf
    have HF:Hid (ofB (Pl.look (Pl.from_ s p)).1 c false=false):=hf
    clear hf
    go_wp2_with fail
    refine bodyPost_ret (v:=.agg #[.int .u8 K,.string B,.int .i64 N]) ?_ rfl ⟨q,by rw [HT.out],by rw [HF.out];exact rs_box (Ne.intro hne3) (bS HR1.out 1 _) _ _ _,hqs,HN.out HF.out,keeps_box (kw.set _ _) _ _ _⟩
    simp [results,Tryz.results183,go_sem,x0,x1,x2,hne3]
   ·have HF:Hid (ofB (Pl.look (Pl.from_ s p)).1 c true=true):=by rw [HB.out];rfl
    go_wp2_with fail
    refine bodyPost_ret (v:=.agg #[.int .u8 K,.string B,.int .i64 N]) ?_ rfl ⟨p,by rw [HT.out],by rw [HF.out];exact rs_box (Ne.intro hne3) HR1.out _ _ _,hp,HY.out HF.out,keeps_box kw _ _ _⟩
    simp [results,Tryz.results183,go_sem,x0,x1,x2]
  ·have hf:=HB.out
   rw [e1,Bool.or_true] at hf
   have HF:Hid (ofB (Pl.look (Pl.from_ s p)).1 c b=true):=hf
   clear hf
   go_wp2_with fail
   refine bodyPost_ret (v:=.agg #[.int .u8 K,.string B,.int .i64 N]) ?_ rfl ⟨p,by rw [HT.out],by rw [HF.out];exact rs_box (Ne.intro hne3) (bS HR1.out 3 _) _ _ _,hp,HY.out HF.out,keeps_box (kw.set _ _) _ _ _⟩
   simp [results,Tryz.results183,go_sem,x0,x1,x2,hne3]
theorem refK_w (k:Nat):(Pl.refK k != 119)=!(k == 1):=by
 unfold Pl.refK
 repeat' split
 all_goals (simp;try omega)
theorem refK_n (k:Nat):(Pl.refK k != 110)=!(k == 2):=by
 unfold Pl.refK
 repeat' split
 all_goals (simp;try omega)
theorem ofB_isK (ts:List Pl.Tok)(t:Pl.Tok)(h:Pl.hd ts=t)(kk:Nat)(c:Int)(hc:(kk=1/\c=119)\/(kk=2/\c=110))(b:Bool):ofB t c b=!isK ts kk b:=by
 unfold ofB isK
 rw [h]
 rcases hc with ⟨rfl,rfl⟩|⟨rfl,rfl⟩
 ·rw [refK_w];cases b <;> simp
 ·rw [refK_n];cases b <;> simp
theorem ofT (kk:Nat)(c:Int)(hc:(kk=1/\c=119)\/(kk=2/\c=110))(rb:Nat)(s:ByteArray)(ts:List Pl.Tok)(d:Nat)(b:Bool)(w:World)(hR:RT w rb s ts d b) :
 Calls Tryz.prog 183 #[.pointer (some ⟨rb,0,none⟩),.int .u8 c] w fun e w'=>e=.returned (Pl.refTok (Pl.hd ts))/\RT w' rb s (toK ts kk b) d (!isK ts kk b)/\Keeps rb w w':=by
 obtain ⟨p,hp,hs,hr,rfl⟩:=hR
 refine (of_any rb s p d b c w hr hp hs).mono ?_
 rintro e w' ⟨q,rfl,hr',hqs,hq,hk2⟩
 have e1:=ofB_isK _ _ (Pl.toks_hd (Pl.from_ s p)) kk c hc b
 rw [e1] at hr'
 refine ⟨by rw [Pl.toks_hd],⟨q,hqs,hs,hr',?_⟩,hk2⟩
 unfold ofTo at hq
 unfold toK
 rw [e1] at hq
 cases hx:isK (Pl.toks (Pl.from_ s p)) kk b
 ·rw [hx] at hq
  rw [hq];rfl
 ·rw [hx] at hq
  simp only [if_true] at hq ⊢
  rw [hq]
  unfold isK at hx
  rw [Pl.toks_hd] at hx
  simp at hx
  rw [<- Pl.toks_tl _ (by omega) (by omega)]
  rfl
theorem nameT (rb:Nat)(s:ByteArray)(ts:List Pl.Tok)(d:Nat)(b:Bool)(w:World)(hR:RT w rb s ts d b) :
 Calls Tryz.prog 122 #[.pointer (some ⟨rb,0,none⟩)] w fun e w'=>e=.returned (.string (Pl.refB (Pl.hd ts)))/\RT w' rb s (toK ts 1 b) d (!isK ts 1 b)/\Keeps rb w w':=by
 have HC:=Z (ofT 1 119 (.inl ⟨rfl,rfl⟩) rb s ts d b w hR)
 clear hR
 go_enter Tryz.func122,Tryz.ntmps122
 go_wp2_with fail
 refine (U HC).mono ?_
 rintro e w1 ⟨rfl,hr,hk1⟩
 rw [Pl.refTok_eq]
 go_wp2_with fail
 go_ret
 exact ⟨rfl,hr.blk (by rw [Below.heap_alloc _ _ _ hr.lt]),hk1.alloc _⟩
theorem moreT (rb:Nat)(s:ByteArray)(ts:List Pl.Tok)(d:Nat)(b:Bool)(w:World)(hR:RT w rb s ts d b) :
 Calls Tryz.prog 184 #[.pointer (some ⟨rb,0,none⟩)] w fun e w'=>e=.returned (.bool (isK ts 9 b))/\RT w' rb s (toK ts 9 b) d b/\Keeps rb w w':=by
 have HC:=Z (fitsT 9 (by decide) (by decide) rb s ts d b { data:=#[44] } rfl w hR)
 clear hR
 have hb:isK ts 9 b=true->b=false:=by cases b <;> simp [isK]
 cases hx:isK ts 9 b
 ·go_enter Tryz.func184,Tryz.ntmps184
  go_wp2_with fail
  refine (U HC).mono ?_
  rintro e w1 ⟨rfl,hr,hk1⟩
  rw [hx]
  go_wp2_with fail
  go_ret
  exact ⟨rfl,hr,hk1⟩
 ·have hb':=hb hx
  subst hb'
  go_enter Tryz.func184,Tryz.ntmps184
  go_wp2_with fail
  refine (U HC).mono ?_
  rintro e w1 ⟨rfl,hr,hk1⟩
  rw [hx]
  obtain ⟨p,hp,hs,hr',ht⟩:=hr
  obtain ⟨r0,r1,r2,r3,rf⟩:=hr'.c
  go_wp2_with fail
  go_ret
  exact ⟨rfl,⟨p,hp,hs,hr',ht⟩,hk1⟩
def dpB (d:Nat)(b:Bool):Bool:=b || decide (20<=d)
theorem deeperT (rb:Nat)(s:ByteArray)(ts:List Pl.Tok)(d:Nat)(hd:d<=1000)(b:Bool)(w:World)(hR:RT w rb s ts d b) :
 Calls Tryz.prog 307 #[.pointer (some ⟨rb,0,none⟩)] w fun e w'=>e=.returned (.bool (!dpB d b))/\RT w' rb s ts (d+1) (dpB d b)/\Keeps rb w w':=by
 obtain ⟨p,hp,hs,hr,ht⟩:=hR
 have HT:Hid (Pl.toks (Pl.from_ s p)=ts):=ht
 obtain ⟨r0,r1,r2,r3,rf⟩:=hr.c
 have HR:Hid (RS w rb s p d b):=hr
 clear hr ht
 by_cases h20:20<=d
 ·have HD:Hid (dpB d b=true):=by simp [dpB,h20,Hid]
  go_enter Tryz.func307,Tryz.ntmps307
  go_wp2
  go_ret
  exact ⟨by rw [HD.out];rfl,⟨p,hp,hs,by rw [HD.out];exact bS (bS HR.out 2 _) 3 _,HT.out⟩,((Keeps.refl _ _).set _ _).set _ _⟩
 ·have HD:Hid (dpB d b=b):=by simp [dpB,h20,Hid]
  go_enter Tryz.func307,Tryz.ntmps307
  go_wp2
  go_ret
  exact ⟨by rw [HD.out];rfl,⟨p,hp,hs,by rw [HD.out];exact bS HR.out 2 _,HT.out⟩,(Keeps.refl _ _).set _ _⟩
def fstI (ts:List Pl.Tok)(b:Bool):List Nat->Int->Int
 | [],_=>-1
 | k :: ks,i=>if isK ts k b=true then i else fstI ts b ks (i+1)
def fstTo (ts:List Pl.Tok)(b:Bool):List Nat->List Pl.Tok
 | []=>ts
 | k :: ks=>if isK ts k b=true then ts.tail else fstTo ts b ks
def strsAt (w:World)(lb:Nat)(ks:List Nat):Prop:=lb<w.heap.size/\(∀ i (h:i<ks.length),w.cell? ⟨lb,i,none⟩=some (.string ⟨(Pl.spell ks[i]).toArray⟩))/\∀ k,k ∈ ks->4<=k/\k<51
theorem fst_drop {ts:List Pl.Tok}{b:Bool}:∀ (ks:List Nat)(i:Nat)(j:Int),i<=ks.length->(∀ m (h:m<ks.length),m<i->isK ts ks[m] b=false)->fstI ts b ks j=fstI ts b (ks.drop i) (j+i)/\fstTo ts b ks=fstTo ts b (ks.drop i)
 | ks,0,j,_,_=>by simp
 | [],i+1,j,h,_=>by simp at h
 | k :: ks,i+1,j,h,hno=>by
  have h0:=hno 0 (by simp) (by omega)
  simp only [List.getElem_cons_zero] at h0
  have:=fst_drop ks i (j+1) (by simpa using h) (fun m hm hmi=>by have:=hno (m+1) (by simp;omega) (by omega);simpa using this)
  rw [List.drop_succ_cons]
  constructor
  ·rw [fstI,h0,if_neg (by simp),this.1];congr 1;omega
  ·rw [fstTo,h0,if_neg (by simp),this.2]
theorem firstT (ks:List Nat)(lb:Nat)(cp:Nat)(rb:Nat)(s:ByteArray)(ts:List Pl.Tok)(d:Nat)(b:Bool)(w:World)(hR:RT w rb s ts d b)(hL:strsAt w lb ks)(hne:lb≠rb)(hn:ks.length<=100) :
 Calls Tryz.prog 120 #[.pointer (some ⟨rb,0,none⟩),.slice (some ⟨lb,0,none⟩) ks.length cp] w fun e w'=>e=.returned (.int .i64 (fstI ts b ks 0))/\RT w' rb s (fstTo ts b ks) d b/\Keeps rb w w':=by
 have HR:=Z hR
 have HL:=Z hL
 clear hR hL
 go_enter Tryz.func120,Tryz.ntmps120
 go_wp2_with fail
 go_loopw [5] (fun a wr=>∃ i:Nat,i<=ks.length/\a=.int .i64 i/\Hid (∀ m (h:m<ks.length),m<i->isK ts ks[m] b=false)/\Hid (RT wr rb s ts d b)/\Hid (Keeps rb w wr)) (fun a _=>ks.length - (intOf a).toNat)
 case atStart=>exact ⟨0,Nat.zero_le _,rfl,fun m _ h=>by omega,HR,Keeps.refl _ _⟩
 case round =>
  obtain ⟨i,hi,rfl,HN,HT,HK⟩:=hrel
  by_cases hlt:i<ks.length
  ·have hc:wr.cell? ⟨lb,i,none⟩=some (.string ⟨(Pl.spell ks[i]).toArray⟩):=by rw [HK.out.cell HL.out.1 hne];exact HL.out.2.1 i hlt
   have hk:=HL.out.2.2 ks[i] (List.getElem_mem hlt)
   have HC:=Z (fitsT ks[i] hk.1 hk.2 rb s ts d b _ rfl wr HT.out)
   have HD:=Z (fst_drop ks i 0 hi HN.out)
   rw [List.drop_eq_getElem_cons hlt] at HD
   generalize hkk:ks[i]=kk at *
   have HKK:=Z hkk
   clear hkk
   cases hx:isK ts kk b
   ·have h1:Hid (toK ts kk b=ts):=by unfold toK;rw [hx];rfl
    go_wp2_with fail
    refine (U HC).mono ?_
    rintro e w1 ⟨rfl,hr,hk1⟩
    rw [hx]
    rw [h1.out] at hr
    have HT1:=Z hr
    clear hr
    go_wp2_with fail
    go_roundw
    case rel=>exact ⟨i+1,by omega,by go_num,fun m hm hmi=>by
     by_cases e:m=i
     ·subst e;rw [HKK.out];exact hx
     ·exact HN.out m hm (by omega),HT1,HK.out.trans hk1⟩
    case measure=>simp [intOf];omega
   ·go_wp2_with fail
    refine (U HC).mono ?_
    rintro e w1 ⟨rfl,hr,hk1⟩
    rw [hx]
    have HT1:=Z hr
    clear hr
    have h2:Hid (fstI ts b ks 0=(i:Int)/\fstTo ts b ks=toK ts kk b):=by
     constructor
     ·rw [HD.out.1,fstI,hx,if_pos rfl];omega
     ·rw [HD.out.2,fstTo,hx,if_pos rfl];unfold toK;rw [hx,if_pos rfl]
    clear HD
    go_wp2_with fail
    go_ret
    exact ⟨ret_int h2.out.1.symm,by rw [h2.out.2];exact HT1.out,HK.out.trans hk1⟩
  ·have HD:=fst_drop ks i 0 hi HN.out
   rw [List.drop_eq_nil_of_le (by omega)] at HD
   have h2:Hid (fstI ts b ks 0=-1/\fstTo ts b ks=ts):=⟨by rw [HD.1,fstI],by rw [HD.2,fstTo]⟩
   clear HD
   go_wp2_with fail
   go_ret
   exact ⟨ret_int h2.out.1.symm,by rw [h2.out.2];exact HT.out,HK.out⟩
end Go.Proofs.YtojdpjpldokjmaaGreatDoor
