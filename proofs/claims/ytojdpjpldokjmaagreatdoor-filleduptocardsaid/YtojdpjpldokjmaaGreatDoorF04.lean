/- The code's lexer: first, skipBlanks, Cut. -/
import Derived.Test.YtojdpjpldokjmaaGreatDoorF02
import Derived.Test.YtojdpjpldokjmaaGreatDoorF03
set_option maxHeartbeats 60000000
set_option maxRecDepth 100000
namespace Go.Proofs.YtojdpjpldokjmaaGreatDoor
open Go.RowKit Go.Deep
set_option linter.unusedSimpArgs false
set_option linter.unusedVariables false
namespace Pl
theorem dw_suffix (p:UInt8->Bool):∀ l:List UInt8,l.dropWhile p <:+ l
 | []=>List.suffix_refl _
 | c :: r=>by
  rw [List.dropWhile_cons];split
  ·exact (dw_suffix p r).trans (List.suffix_cons c r)
  ·exact List.suffix_refl _
theorem litTok_suffix:∀ (acc l:List UInt8),(litTok acc l).2 <:+ l
 | _,[]=>by simp [litTok]
 | acc,[c]=>by unfold litTok;split <;> exact List.nil_suffix
 | acc,c :: d :: r=>by
  unfold litTok
  split
  ·split
   ·exact (litTok_suffix _ r).trans ((List.suffix_cons d r).trans (List.suffix_cons c _))
   ·exact List.suffix_cons c _
  ·exact (litTok_suffix _ (d :: r)).trans (List.suffix_cons c _)
theorem signTok_suffix:∀ (l:List UInt8),(signTok l).2 <:+ l
 | []=>List.suffix_refl _
 | [c]=>List.nil_suffix
 | c :: d :: r=>by
  simp only [signTok];split
  ·exact List.suffix_cons c _
  ·exact (List.suffix_cons d r).trans (List.suffix_cons c _)
theorem headTok_suffix:∀ (l:List UInt8),(headTok l).2 <:+ l
 | []=>List.suffix_refl _
 | c :: r=>by
  simp only [headTok]
  split
  ·exact dw_suffix _ _
  ·split
   ·exact dw_suffix _ _
   ·split
    ·exact (litTok_suffix _ r).trans (List.suffix_cons c r)
    ·exact signTok_suffix _
theorem headTok_drop (l:List UInt8):l.drop (l.length - (headTok l).2.length)=(headTok l).2:=by
 obtain ⟨pre,h⟩:=headTok_suffix l
 have hl:l.length - (headTok l).2.length=pre.length:=by
  have:=congrArg List.length h;simp at this;omega
 rw [hl]
 generalize (headTok l).2=z at h
 subst h;simp
theorem headTok_k0 (c:UInt8)(r:List UInt8):(headTok (c :: r)).1.k≠0:=by
 have bk:bad.k=99:=rfl
 simp only [headTok]
 split
 ·rcases wordTok_k (List.takeWhile isLD (c :: r)) with h|h|h
  ·simp only;omega
  ·simp only;omega
  ·simp only;rw [h];decide
 ·split
  ·rcases numTok_k (List.takeWhile isDig (c :: r)) with h|h
   ·simp only;omega
   ·simp only;rw [h];decide
  ·split
   ·rcases litTok_k [] r with h|h
    ·omega
    ·rw [h];decide
   ·cases r with
    | nil =>
     have:=oneSign_k c.toNat
     unfold signK at this
     simp only [signTok];omega
    | cons d r =>
     have h1:=oneSign_k c.toNat
     have h2:=twoSign_k c.toNat d.toNat
     unfold signK at h1 h2
     simp only [signTok]
     split
     ·simp only;omega
     ·simp only;omega
theorem dw_dw (p:UInt8->Bool):∀ l:List UInt8,(l.dropWhile p).dropWhile p=l.dropWhile p
 | []=>rfl
 | c :: r=>by
  rw [List.dropWhile_cons];split
  ·exact dw_dw p r
  ·rename_i h;rw [List.dropWhile_cons,if_neg h]
theorem toks_dw (l:List UInt8):toks (l.dropWhile isBlank)=toks l:=by
 have h:look (l.dropWhile isBlank)=look l:=by unfold look;rw [dw_dw]
 rw [toks_unfold,toks_unfold l,h]
end Pl
theorem cut1_form (z:Pl.Tok × List UInt8)(l:List UInt8):∃ (a b:Int)(c:ByteArray)(n:Int),Pl.cut1 z l=.tuple #[.agg #[.int .i64 a,.int .i64 b,.string c],.int .i64 n]:=by
 unfold Pl.cut1
 split
 ·exact ⟨_,_,_,_,rfl⟩
 ·exact ⟨_,_,_,_,rfl⟩
theorem list_of (s:ByteArray)(h:0<s.size):s.data.toList=s[0] :: Pl.from_ s 1:=by
 rw [<- Pl.from_zero,Pl.from_lt s 0 h]
theorem first_any (X:LexLib)(s:ByteArray)(w:World)(hs:s.size<=1048576)(h0:0<s.size)(hg:SpellAt w)(he:ErrAt w) :
 Calls Tryz.prog 94 #[.string s] w fun e w'=>e=.returned (Pl.cut1 (Pl.headTok s.data.toList) s.data.toList)/\Below w.heap.size w w':=by
 have HL:=Z (list_of s h0)
 cases hl:Pl.isLet s[0]
 ·cases hd:Pl.isDig s[0]
  ·by_cases hq:s[0].toNat=39
   ·have HV:Hid (Pl.headTok s.data.toList=Pl.litTok [] (Pl.from_ s 1)):=by
     unfold Hid;rw [HL.out];simp only [Pl.headTok];rw [if_neg (by simp [hl]),if_neg (by simp [hd]),if_pos hq]
    have HQ:=Z (quoted_any X s)
    have hq':(((s[0].toNat:Nat):Int) == 39)=true:=by simp;omega
    clear hq HL X hg he
    rw [HV.out]
    go_enter Tryz.func94,Tryz.ntmps94
    go_wp2_with (first|(go_at_call 143;refine (isLetter_any _ _).mono ?_;rintro e w' ⟨rfl,rfl⟩)|(go_at_call 145;refine (isDigit_any _ _).mono ?_;rintro e w' ⟨rfl,rfl⟩))
    refine (U HQ _ hs h0).mono ?_
    obtain ⟨a,b,c,n,hf⟩:=cut1_form (Pl.litTok [] (Pl.from_ s 1)) s.data.toList
    rw [hf]
    have HF:=Z hf
    clear hf
    rintro e w2 ⟨rfl,hb⟩
    obtain ⟨c1,f1⟩:=bcell hb
    go_wp2_with fail
    refine bodyPost_ret (v:=.tuple #[.agg #[.int .i64 a,.int .i64 b,.string c],.int .i64 n]) ?_ rfl ⟨by rw [HF.out],?_⟩
    ·simp [results,Tryz.results94,go_sem,c1]
    ·exact below_box (((Below.refl _ _).alloc (Nat.le_refl _) _).trans (hb.mono (by simp))) _ _ _
   ·have HV:Hid (Pl.headTok s.data.toList=Pl.signTok (s[0] :: Pl.from_ s 1)):=by
     unfold Hid;rw [HL.out];simp only [Pl.headTok];rw [if_neg (by simp [hl]),if_neg (by simp [hd]),if_neg hq]
    have HQ:Hid (∀ w,SpellAt w->Calls Tryz.prog 148 #[.string s] w fun e w'=>e=.returned (Pl.cut1 (Pl.signTok (s[0] :: Pl.from_ s 1)) s.data.toList)/\Below w.heap.size w w'):=by
     intro w hw
     have:=sign_any X s[0] (Pl.from_ s 1) w hw
     rw [<- HL.out] at this ⊢
     exact this
    have hq':(((s[0].toNat:Nat):Int) == 39)=false:=by simp;omega
    have HG:=Z hg
    clear hq HL X hg he
    rw [HV.out]
    go_enter Tryz.func94,Tryz.ntmps94
    go_wp2_with (first|(go_at_call 143;refine (isLetter_any _ _).mono ?_;rintro e w' ⟨rfl,rfl⟩)|(go_at_call 145;refine (isDigit_any _ _).mono ?_;rintro e w' ⟨rfl,rfl⟩))
    refine (U HQ _ (HG.out.below ((Below.refl _ _).alloc (Nat.le_refl _) _))).mono ?_
    obtain ⟨a,b,c,n,hf⟩:=cut1_form (Pl.signTok (s[0] :: Pl.from_ s 1)) s.data.toList
    rw [hf]
    have HF:=Z hf
    clear hf
    rintro e w2 ⟨rfl,hb⟩
    obtain ⟨c1,f1⟩:=bcell hb
    go_wp2_with fail
    refine bodyPost_ret (v:=.tuple #[.agg #[.int .i64 a,.int .i64 b,.string c],.int .i64 n]) ?_ rfl ⟨by rw [HF.out],?_⟩
    ·simp [results,Tryz.results94,go_sem,c1]
    ·exact below_box (((Below.refl _ _).alloc (Nat.le_refl _) _).trans (hb.mono (by simp))) _ _ _
  ·have HV:Hid (Pl.headTok s.data.toList=(Pl.numTok (s.data.toList.takeWhile Pl.isDig),s.data.toList.dropWhile Pl.isDig)):=by
    unfold Hid;rw [HL.out];simp only [Pl.headTok];rw [if_neg (by simp [hl]),if_pos hd]
   have HQ:=Z (number_any X s)
   have HG:=Z he
   have HN:Hid (s.data.toList.takeWhile Pl.isDig≠[]):=by unfold Hid;rw [HL.out,List.takeWhile_cons_of_pos hd];simp
   clear HL X hg he
   rw [HV.out]
   go_enter Tryz.func94,Tryz.ntmps94
   go_wp2_with (first|(go_at_call 143;refine (isLetter_any _ _).mono ?_;rintro e w' ⟨rfl,rfl⟩)|(go_at_call 145;refine (isDigit_any _ _).mono ?_;rintro e w' ⟨rfl,rfl⟩))
   refine (U HQ _ hs HN.out (HG.out.alloc _)).mono ?_
   obtain ⟨a,b,c,n,hf⟩:=cut1_form (Pl.numTok (s.data.toList.takeWhile Pl.isDig),s.data.toList.dropWhile Pl.isDig) s.data.toList
   rw [hf]
   have HF:=Z hf
   clear hf
   rintro e w2 ⟨rfl,hb⟩
   obtain ⟨c1,f1⟩:=bcell hb
   go_wp2_with fail
   refine bodyPost_ret (v:=.tuple #[.agg #[.int .i64 a,.int .i64 b,.string c],.int .i64 n]) ?_ rfl ⟨by rw [HF.out],?_⟩
   ·simp [results,Tryz.results94,go_sem,c1]
   ·exact below_box (((Below.refl _ _).alloc (Nat.le_refl _) _).trans (hb.mono (by simp))) _ _ _
 ·have HV:Hid (Pl.headTok s.data.toList=(Pl.wordTok (s.data.toList.takeWhile Pl.isLD),s.data.toList.dropWhile Pl.isLD)):=by
   unfold Hid;rw [HL.out];simp only [Pl.headTok];rw [if_pos hl]
  have HQ:=Z (word_code X s)
  have HG:=Z hg
  clear HL X hg he
  rw [HV.out]
  go_enter Tryz.func94,Tryz.ntmps94
  go_wp2_with (first|(go_at_call 143;refine (isLetter_any _ _).mono ?_;rintro e w' ⟨rfl,rfl⟩)|(go_at_call 145;refine (isDigit_any _ _).mono ?_;rintro e w' ⟨rfl,rfl⟩))
  refine (U HQ _ hs (HG.out.below ((Below.refl _ _).alloc (Nat.le_refl _) _))).mono ?_
  obtain ⟨a,b,c,n,hf⟩:=cut1_form (Pl.wordTok (s.data.toList.takeWhile Pl.isLD),s.data.toList.dropWhile Pl.isLD) s.data.toList
  rw [hf]
  have HF:=Z hf
  clear hf
  rintro e w2 ⟨rfl,hb⟩
  obtain ⟨c1,f1⟩:=bcell hb
  go_wp2_with fail
  refine bodyPost_ret (v:=.tuple #[.agg #[.int .i64 a,.int .i64 b,.string c],.int .i64 n]) ?_ rfl ⟨by rw [HF.out],?_⟩
  ·simp [results,Tryz.results94,go_sem,c1]
  ·exact below_box (((Below.refl _ _).alloc (Nat.le_refl _) _).trans (hb.mono (by simp))) _ _ _
theorem skip_any (X:LexLib)(s:ByteArray)(w:World):Calls Tryz.prog 93 #[.string s] w fun e w'=>e=.returned (.string ⟨(s.data.toList.dropWhile Pl.isBlank).toArray⟩)/\Below w.heap.size w w':=by
 have HQ:=Z (X.trim s)
 clear X
 go_enter Tryz.func93,Tryz.ntmps93
 go_wp2_with fail
 refine (U HQ _).mono ?_
 rintro e w2 ⟨rfl,hb⟩
 go_wp2_with fail
 go_ret
 exact ⟨rfl,hb⟩
def tokCells (ts:List Pl.Tok):List Value:=ts.flatMap (fun t=>[.int .i64 t.k,.int .i64 t.n,.string ⟨t.s.toArray⟩])
theorem tokCells_snoc (ts:List Pl.Tok)(t:Pl.Tok):tokCells (ts++[t])=tokCells ts++[.int .i64 t.k,.int .i64 t.n,.string ⟨t.s.toArray⟩]:=by unfold tokCells;simp
theorem Tryz.infoToken:(Tryz.prog.info? 180).map (fun i=>(i.zero,i.size,i.bytes))=some (some (.agg #[.int .i64 0,.int .i64 0,.string { data:=#[] }]),3,32):=by kernel_rfl
def PostC (w:World)(l:List UInt8)(e:Ending)(w':World):Prop :=
 Below w.heap.size w w'/\((Pl.NoBad (Pl.toks l)/\∃ a n c,e=.returned (.tuple #[.slice a n c,.bool true])/\w'.ownsRow w.heap.size 180 3 (.slice a n c) (Pl.toks l).length (tokCells (Pl.toks l)))\/(¬ Pl.NoBad (Pl.toks l)/\e=.returned (.tuple #[.slice none 0 0,.bool false])))
def lenOf:Value->Nat
 | .string b=>b.size
 | _=>0
def CutAt (w wr:World)(L:List UInt8)(v:Value)(acc:List Pl.Tok)(l:List UInt8):Prop :=
 Below w.heap.size w wr/\wr.ownsRow w.heap.size 180 3 v acc.length (tokCells acc)/\l.length<=L.length/\acc.length+l.length<=L.length/\Pl.NoBad acc/\Pl.toks L=acc++Pl.toks l/\l.dropWhile Pl.isBlank=l
theorem news_at2 (w:World)(o:Obj)(C:List Value)(t:TypeId):∀ j u,C[j]?=some u->((w.alloc o).alloc (.cells C.toArray t)).cell? ((⟨w.heap.size+1,0,none⟩:Addr).add j)=some u:=by
 have h:=news_at (w.alloc o) C t
 rw [show (w.alloc o).heap.size=w.heap.size+1 by simp] at h
 exact h
theorem own_below {w w':World}{base:Nat}{e:TypeId}{size n:Nat}{v:Value}{xs:List Value}(hb:Below w.heap.size w w')(h:w.ownsRow base e size v n xs):w'.ownsRow base e size v n xs:=by
 obtain ⟨h1,h2⟩:=h
 refine ⟨h1,?_⟩
 rcases h2 with h2|⟨g,cap,cur,hv,hg,hh,r⟩
 ·exact .inl h2
 ·exact .inr ⟨g,cap,cur,hv,hg,bB hb (lB hh) hh,r⟩
theorem cut_any (X:LexLib)(s:ByteArray)(w:World)(hs:s.size<=1048576)(hg:SpellAt w)(he:ErrAt w) :
 Calls Tryz.prog 61 #[.string s] w (PostC w s.data.toList):=by
 obtain ⟨i0,hi,hz0,hz1,hz2⟩:=info_parts Tryz.infoToken
 have HX:=Z X
 have HG:=Z hg
 have HE:=Z he
 clear X hg he
 go_enter Tryz.func61,Tryz.ntmps61
 go_wp2_with fail
 refine (skip_any HX.out s w).mono ?_
 rintro e w1 ⟨rfl,hb⟩
 have HC:Hid (CutAt w w1 s.data.toList (.slice none 0 0) [] (s.data.toList.dropWhile Pl.isBlank)) :=
  ⟨hb,World.ownsRow_nil _ _ _ _,Pl.dw_len _ _,by have:=Pl.dw_len Pl.isBlank s.data.toList;simpa using this,fun t ht=>(by cases ht),by rw [Pl.toks_dw];rfl,Pl.dw_dw _ _⟩
 generalize s.data.toList.dropWhile Pl.isBlank=l0 at *
 clear hb
 go_wp2_with fail
 go_loopw [4,5] (fun v r wr=>∃ (acc:List Pl.Tok) (l:List UInt8),r=.string ⟨l.toArray⟩/\Hid (CutAt w wr s.data.toList v acc l)) (fun _ r _=>lenOf r)
 case atStart=>exact ⟨[],l0,rfl,HC⟩
 case round =>
  obtain ⟨acc,l,rfl,HI⟩:=hrel
  clear HC
  cases l with
  | nil =>
   obtain ⟨h1,h2,h3,h4,h5,h6,h7⟩:=HI.out
   rw [show Pl.toks []=[] from rfl,List.append_nil] at h6
   obtain ⟨va,vn,vc,rfl⟩:=own_slice h2
   have HP:Hid (PostC w s.data.toList (.returned (.tuple #[.slice va vn vc,.bool true])) wr) :=
    ⟨h1,.inl ⟨by rw [h6];exact h5,va,vn,vc,rfl,by rw [h6];exact h2⟩⟩
   clear h1 h2 h3 h4 h5 h6 h7 HI
   go_wp2_with fail
   exact bodyPost_ret (v:=.tuple #[.slice va vn vc,.bool true]) (by simp [results,Tryz.results61,go_sem]) rfl HP.out
  | cons c r =>
   obtain ⟨h1,h2,h3,h4,h5,h6,h7⟩:=HI.out
   have hl1:(c :: r).length<=1048576:=by
    have:s.data.toList.length<=1048576:=by simpa using hs
    omega
   have HF:=Z (first_any HX.out ⟨(c :: r).toArray⟩ wr (by simpa [ByteArray.size] using hl1) (by simp [ByteArray.size]) (HG.out.below h1) (HE.out.below h1))
   have hlook:Pl.look (c :: r)=Pl.headTok (c :: r):=by unfold Pl.look;rw [h7]
   have hk:=Pl.look_k (c :: r)
   have hlen:=Pl.headTok_len (c :: r) (by simp)
   have hdrop:=Pl.headTok_drop (c :: r)
   have htk:=Pl.toks_unfold (c :: r)
   have hk0:=Pl.headTok_k0 c r
   rw [hlook] at hk htk
   obtain ⟨va,vn,vc,rfl⟩:=own_slice h2
   change Hid (Calls Tryz.prog 94 #[.string ⟨(c :: r).toArray⟩] wr fun e w'=>e=.returned (Pl.cut1 (Pl.headTok (c :: r)) (c :: r))/\Below wr.heap.size wr w') at HF
   generalize hz:Pl.headTok (c :: r)=z at *
   obtain ⟨tk,rest⟩:=z
   simp only at hk hlen hdrop htk hk0
   have H6:=Z h6
   by_cases h99:tk.k=99
   ·have HV:Hid (Pl.cut1 (tk,rest) (c :: r)=.tuple #[.agg #[.int .i64 0,.int .i64 0,.string ⟨#[]⟩],.int .i64 0]):=Pl.cut1_bad h99
    rw [HV.out] at HF
    have HP:Hid (∀ w2,Below wr.heap.size wr w2->PostC w s.data.toList (.returned (.tuple #[.slice none 0 0,.bool false])) w2):=fun w2 hb2=>by
     refine ⟨h1.trans (hb2.mono h1.size),.inr ⟨?_,rfl⟩⟩
     intro hn
     rw [H6.out,htk,if_neg (by omega),if_pos h99] at hn
     exact hn Pl.bad (by simp) rfl
    clear h1 h2 h3 h4 h5 h6 h7 HI hlook hk hlen hdrop htk hz HV h99
    go_wp2_with fail
    refine (U HF).mono ?_
    rintro e w2 ⟨rfl,hb⟩
    have HB:=Z hb
    clear hb
    go_wp2_with fail
    exact bodyPost_ret (v:=.tuple #[.slice none 0 0,.bool false]) (by simp [results,Tryz.results61,go_sem]) rfl (HP.out _ (HB.out.alloc HB.out.size _))
   ·have hn:0<(c :: r).length - rest.length:=by omega
    have hnl:(c :: r).length - rest.length<=(c :: r).length:=by omega
    have HV:Hid (Pl.cut1 (tk,rest) (c :: r)=.tuple #[.agg #[.int .i64 tk.k,.int .i64 tk.n,.string ⟨tk.s.toArray⟩],.int .i64 (((c :: r).length - rest.length:Nat):Int)]):=Pl.cut1_ok h99
    rw [HV.out] at HF
    have hext:(⟨(c :: r).toArray⟩:ByteArray).extract ((c :: r).length - rest.length) (c :: r).length=⟨rest.toArray⟩:=by
     apply ByteArray.ext
     apply Array.toList_inj.1
     rw [ext_list]
     show List.drop _ (List.take (c :: r).length (c :: r))=rest
     rw [List.take_length,hdrop]
    have HX2:=Z hext
    have HTK:Hid (Pl.toks (c :: r)=tk :: Pl.toks rest):=by
     unfold Hid
     rw [htk,if_neg hk0,if_neg h99]
    have H1:=Z h1
    have H4:=Z h4
    have H5:=Z h5
    have hlr:rest.length<(c :: r).length:=hlen
    clear h1 h3 h4 h5 h6 h7 HI hlook hk hlen hdrop htk hz HV hext hk0
    generalize hN:(c :: r).length - rest.length=N at *
    have hnl':N<=r.length+1:=hnl
    have HX3:Hid ((⟨(c :: r).toArray⟩:ByteArray).extract N (r.length+1)=⟨rest.toArray⟩):=HX2
    have hlr':rest.length<=r.length:=by simp at hlr;omega
    clear hnl hN HX2
    go_wp2_with fail
    refine (U HF).mono ?_
    rintro e w2 ⟨rfl,hb⟩
    have HB:=Z hb
    have hown2:w2.ownsRow w.heap.size 180 3 (.slice va vn vc) acc.length (tokCells acc):=own_below hb h2
    have hzw:w.heap.size<=w2.heap.size:=by have:=H1.out.size;have:=hb.size;omega
    clear hb h2
    go_wp2_with (at_builtin;refine wpList_append_own _ rfl (.tmp 21) (.tmp 23) 121 rfl w.heap.size 180 i0 _ 3 32 Tryz.underlying121 hi hz0 hz1 hz2 rfl (by decide) _ _ _ rfl ((hown2.alloc _).alloc _) ⟨w2.heap.size+1,0,none⟩ 1 1 [.int .i64 tk.k,.int .i64 tk.n,.string ⟨tk.s.toArray⟩] rfl rfl ?c1 ?c2 ?c3 ?c4 ?c5 ?_)
    case c1=>exact news_at2 w2 _ [.int .i64 tk.k,.int .i64 tk.n,.string ⟨tk.s.toArray⟩] 180
    case c2=>intro u hu;simp at hu;rcases hu with rfl|rfl|rfl <;> rfl
    case c3=>have:=H4.out;unfold maxLen;simp at this;omega
    case c4=>have:=H4.out;simp at this;omega
    case c5=>simp;omega
    intro v' w3 hown3 hg3 hnil
    have hg3':Below w.heap.size w w3:=by
     have hlt:∀ k,Value.ownBlock (.slice va vn vc)=some k->w.heap.size<=k:=fun k e=>(hown2.lt k e).1
     have h12:=((H1.out.trans (HB.out.mono H1.out.size)).alloc hzw (.cells #[.int .i64 tk.k,.int .i64 tk.n,.string ⟨tk.s.toArray⟩] 180)).alloc (by simp;omega) (.cells #[.int .i64 tk.k,.int .i64 tk.n,.string ⟨tk.s.toArray⟩] 180)
     exact h12.trans ⟨hg3.os,hg3.tape,hg3.output,hg3.size,fun i hi=>hg3.block i (by simp;omega) (fun e=>by have:=hlt _ e.symm;omega)⟩
    have HW3:=Z hg3'
    have HO3:=Z hown3
    clear hown2 hown3 hg3 hg3' hnil
    go_wp2_with fail
    refine (skip_any HX.out _ w3).mono ?_
    rw [HX3.out]
    rintro e w4 ⟨rfl,hb4⟩
    have HI4:Hid (CutAt w w4 s.data.toList v' (acc++[tk]) (rest.dropWhile Pl.isBlank)):=by
     have hdl:=Pl.dw_len Pl.isBlank rest
     have h4:=H4.out
     simp at h4
     refine ⟨HW3.out.trans (hb4.mono HW3.out.size),?_,?_,?_,?_,?_,Pl.dw_dw _ _⟩
     ·rw [tokCells_snoc,List.length_append];exact own_below hb4 HO3.out
     ·simp;omega
     ·simp;omega
     ·intro t ht
      rcases List.mem_append.1 ht with h|h
      ·exact H5.out t h
      ·simp at h;subst h;exact h99
     ·rw [H6.out,HTK.out,Pl.toks_dw];simp
    have hm:(rest.dropWhile Pl.isBlank).length<(c :: r).length:=by have:=Pl.dw_len Pl.isBlank rest;omega
    have HM:=Z hm
    clear hm hb4 HO3 HW3 HTK H6 H4 H5 H1 HB HF
    go_wp2_with fail
    go_roundw
    case rel=>exact ⟨_,_,rfl,HI4⟩
    case measure=>exact HM.out
open Go.RowKit Go.Deep
set_option linter.unusedSimpArgs false
set_option linter.unusedVariables false
def TokAt (w:World)(rb:Nat)(v:Value)(T:List Pl.Tok):Prop :=
 T.length<=1048576/\((v=.slice none 0 0/\T=[])\/∃ g cap cur,v=.slice (some ⟨g,0,none⟩) T.length cap/\g<rb/\w.heap[g]?=some (.cells cur 180)/\cur.toList.take (T.length*3)=tokCells T)
theorem TokAt.keeps {w w':World}{rb:Nat}{v:Value}{T:List Pl.Tok}(h:TokAt w rb v T)(hk:Keeps rb w w'):TokAt w' rb v T:=by
 obtain ⟨h0,h⟩:=h
 refine ⟨h0,?_⟩
 rcases h with h|⟨g,cap,cur,h1,h2,h3,h4⟩
 ·exact .inl h
 ·exact .inr ⟨g,cap,cur,h1,h2,hk.blk (by omega) h3,h4⟩
theorem tokCells_at:∀ (T:List Pl.Tok)(i:Nat)(h:i<T.length),(tokCells T)[3*i]?=some (.int .i64 T[i].k)/\(tokCells T)[3*i+1]?=some (.int .i64 T[i].n)/\(tokCells T)[3*i+2]?=some (.string ⟨T[i].s.toArray⟩)
 | [],i,h=>absurd h (by simp)
 | t :: T,0,_=>⟨rfl,rfl,rfl⟩
 | t :: T,i+1,h=>by
  have ih:=tokCells_at T i (by simpa using h)
  have e:tokCells (t :: T)=[.int .i64 t.k,.int .i64 t.n,.string ⟨t.s.toArray⟩]++tokCells T:=rfl
  rw [e]
  refine ⟨?_,?_,?_⟩
  ·rw [List.getElem?_append_right (by simp;omega)];simpa [show 3*(i+1) - 3=3*i by omega] using ih.1
  ·rw [List.getElem?_append_right (by simp;omega)];simpa [show 3*(i+1)+1 - 3=3*i+1 by omega] using ih.2.1
  ·rw [List.getElem?_append_right (by simp;omega)];simpa [show 3*(i+1)+2 - 3=3*i+2 by omega] using ih.2.2
theorem TokAt.cells {w:World}{rb:Nat}{v:Value}{T:List Pl.Tok}(h:TokAt w rb v T){i:Nat}(hi:i<T.length):∃ g cap,v=.slice (some ⟨g,0,none⟩) T.length cap/\g<rb/\g<w.heap.size/\w.cell? ⟨g,3*i,none⟩=some (.int .i64 T[i].k)/\w.cell? ⟨g,3*i+1,none⟩=some (.int .i64 T[i].n)/\w.cell? ⟨g,3*i+2,none⟩=some (.string ⟨T[i].s.toArray⟩):=by
 rcases h.2 with ⟨_,h⟩|⟨g,cap,cur,h1,h2,h3,h4⟩
 ·subst h;simp at hi
 ·have hc:=tokCells_at T i hi
  rw [<- h4] at hc
  have q:∀ j,j<T.length*3->w.cell? ⟨g,j,none⟩=(cur.toList.take (T.length*3))[j]?:=fun j hj=>by
   rw [bC h3,List.getElem?_take,if_pos hj];simp
  refine ⟨g,cap,h1,h2,lB h3,?_,?_,?_⟩
  ·rw [q _ (by omega)];exact hc.1
  ·rw [q _ (by omega)];exact hc.2.1
  ·rw [q _ (by omega)];exact hc.2.2
def RC (w:World)(rb:Nat)(T ts:List Pl.Tok)(d:Nat)(b:Bool):Prop :=
 ∃ (v:Value) (p:Nat),w.heap[rb]?=some (.cells #[v,.int .i64 p,.int .i64 d,.bool b] 126)/\p<=T.length/\T.drop p=ts/\(b=true->ts=[])/\TokAt w rb v T
theorem RC.lt {w:World}{rb:Nat}{T ts:List Pl.Tok}{d:Nat}{b:Bool}(h:RC w rb T ts d b):rb<w.heap.size:=by
 obtain ⟨v,p,h1,_⟩:=h;exact lB h1
theorem TokAt.slice {w:World}{rb:Nat}{v:Value}{T:List Pl.Tok}(h:TokAt w rb v T):∃ a c,v=.slice a T.length c:=by
 rcases h.2 with ⟨rfl,rfl⟩|⟨g,cap,cur,h1,_⟩
 ·exact ⟨none,0,rfl⟩
 ·exact ⟨_,_,h1⟩
theorem failC (rb:Nat)(T ts:List Pl.Tok)(d:Nat)(b:Bool)(w:World)(hR:RC w rb T ts d b) :
 Calls Tryz.prog 100 #[.pointer (some ⟨rb,0,none⟩)] w fun e w'=>e=.returned (.tuple #[])/\RC w' rb T [] d true/\Keeps rb w w':=by
 obtain ⟨v,p,h1,h2,h3,h4,h5⟩:=hR
 obtain ⟨a,c,rfl⟩:=h5.slice
 have hz:=lB h1
 have c0:=bC h1 0
 have c1:=bC h1 1
 have c3:=bC h1 3
 have cf:=bF h1
 simp at c0 c1 c3
 have H1:=Z h1
 have H5:=Z h5
 clear h1 h5 h4 h3
 go_enter Tryz.func100,Tryz.ntmps100
 go_wp2_with fail
 refine bodyPost_end (v:=.tuple #[]) (by simp [results,Tryz.results100,go_sem]) rfl ?_
 refine ⟨rfl,⟨.slice a T.length c,T.length,?_,Nat.le_refl _,by simp,fun _=>rfl,H5.out.keeps (((Keeps.refl _ _).set _ _).set _ _)⟩,((Keeps.refl _ _).set _ _).set _ _⟩
 simpa using bS (bS H1.out 3 (.bool true)) 1 (.int .i64 T.length)
theorem hd_drop (T:List Pl.Tok)(p:Nat)(h:p<T.length):Pl.hd (T.drop p)=T[p]/\(T.drop p).tail=T.drop (p+1):=by
 rw [List.drop_eq_getElem_cons h];exact ⟨rfl,rfl⟩
theorem drop_end {T:List Pl.Tok}{p:Nat}(h:¬ p<T.length):T.drop p=[]:=List.drop_eq_nil_of_le (by omega)
theorem RC.drew {w:World}{rb:Nat}{T ts:List Pl.Tok}{d:Nat}{b:Bool}(h:RC w rb T ts d b):RC w.drew rb T ts d b:=h
theorem RC.keeps {w w':World}{rb:Nat}{T ts:List Pl.Tok}{d:Nat}{b:Bool}(h:RC w rb T ts d b)(hk:Keeps rb w w')(hb:w'.heap[rb]?=w.heap[rb]?):RC w' rb T ts d b:=by
 obtain ⟨v,p,h1,h2,h3,h4,h5⟩:=h
 exact ⟨v,p,hb.trans h1,h2,h3,h4,h5.keeps hk⟩
theorem RC.alloc {w:World}{rb:Nat}{T ts:List Pl.Tok}{d:Nat}{b:Bool}(h:RC w rb T ts d b)(o:Obj):RC (w.alloc o) rb T ts d b :=
 h.keeps ((Keeps.refl _ _).alloc _) (Below.heap_alloc _ _ _ h.lt)
theorem peekC (rb:Nat)(T ts:List Pl.Tok)(d:Nat)(b:Bool)(w:World)(hR:RC w rb T ts d b) :
 Calls Tryz.prog 64 #[.pointer (some ⟨rb,0,none⟩)] w fun e w'=>e=.returned (.int .i64 (Pl.hd ts).k)/\RC w' rb T ts d b/\Keeps rb w w':=by
 have HR:=Z hR
 obtain ⟨v,p,h1,h2,h3,h4,h5⟩:=hR
 have hlen:=h5.1
 have hz:=lB h1
 have c0:=bC h1 0
 have c1:=bC h1 1
 have cf:=bF h1
 simp at c0 c1
 by_cases hlt:p<T.length
 ·obtain ⟨g,cap,rfl,hne,hg,e0,e1,e2⟩:=h5.cells hlt
  have HK:Hid (Pl.hd ts=T[p]):=by unfold Hid;rw [<- h3];exact (hd_drop T p hlt).1
  rw [show 3*p=p*3 by omega] at e0
  have hne':((p:Int) == (T.length:Int))=false:=by simp;omega
  clear h1 h3 h4 h5 e1 e2
  go_enter Tryz.func64,Tryz.ntmps64
  go_wp2_with fail
  go_region
  go_wp2_with fail
  go_region
  go_wp2_with fail
  go_ret
  exact ⟨ret_int (by rw [HK.out]),HR.out.drew.drew,(Keeps.refl _ _).drew.drew⟩
 ·obtain ⟨a,c,rfl⟩:=h5.slice
  have HK:Hid (Pl.hd ts=Pl.fin):=by unfold Hid;rw [<- h3,drop_end hlt];rfl
  have hpe:p=T.length:=by omega
  subst hpe
  clear h1 h3 h4 h5
  go_enter Tryz.func64,Tryz.ntmps64
  go_wp2_with fail
  go_region
  go_wp2_with fail
  go_ret
  exact ⟨ret_int (by rw [HK.out];rfl),HR.out.drew,(Keeps.refl _ _).drew⟩
def hk (ts:List Pl.Tok)(k:Nat):Bool:=(Pl.hd ts).k == k
def tl (ts:List Pl.Tok)(k:Nat):List Pl.Tok:=if hk ts k=true then ts.tail else ts
theorem hk_ne {ts:List Pl.Tok}{k:Nat}(hk0:k≠0)(h:hk ts k=true):ts≠[]:=by
 rintro rfl
 unfold hk at h
 simp [Pl.hd,Pl.fin] at h
 omega
theorem RC.next {w:World}{rb:Nat}{T ts:List Pl.Tok}{d:Nat}{b:Bool}(h:RC w rb T ts d b)(hne:ts≠[]):∃ p:Nat,w.cell? ⟨rb,1,none⟩=some (.int .i64 p)/\(∀ o,w.frozen? ⟨rb,o,none⟩=false)/\p<1048576/\b=false/\RC (w.setCell ⟨rb,1,none⟩ (.int .i64 ((p:Int)+1))) rb T ts.tail d b:=by
 obtain ⟨v,p,h1,h2,h3,h4,h5⟩:=h
 have hlt:p<T.length:=by
  rcases Nat.lt_or_ge p T.length with h|h
  ·exact h
  ·rw [drop_end (by omega)] at h3;exact absurd h3.symm hne
 have hb:b=false:=by cases b;rfl;exact absurd (h4 rfl) hne
 refine ⟨p,by simpa using bC h1 1,bF h1,by have:=h5.1;omega,hb,v,p+1,?_,by omega,?_,fun h=>(by rw [hb] at h;cases h),h5.keeps ((Keeps.refl _ _).set _ _)⟩
 ·simpa using bS h1 1 (.int .i64 ((p:Int)+1))
 ·rw [<- h3];exact (hd_drop T p hlt).2.symm
theorem takeC (k:Nat)(hk0:k≠0)(rb:Nat)(T ts:List Pl.Tok)(d:Nat)(b:Bool)(w:World)(hR:RC w rb T ts d b) :
 Calls Tryz.prog 63 #[.pointer (some ⟨rb,0,none⟩),.int .i64 k] w fun e w'=>e=.returned (.bool (hk ts k))/\RC w' rb T (tl ts k) d b/\Keeps rb w w':=by
 have HP:=Z (peekC rb T ts d b w hR)
 have hz:=hR.lt
 clear hR
 cases hx:hk ts k
 ·have HT:Hid (tl ts k=ts):=by unfold tl;rw [hx];rfl
  have hne:(((Pl.hd ts).k:Int) != (k:Int))=true:=by unfold hk at hx;simp at hx ⊢;omega
  go_enter Tryz.func63,Tryz.ntmps63
  go_wp2_with fail
  refine (U HP).mono ?_
  rintro e w1 ⟨rfl,hr,hk1⟩
  go_wp2_with fail
  go_ret
  exact ⟨rfl,by rw [HT.out];exact hr,hk1⟩
 ·have HT:Hid (tl ts k=ts.tail):=by unfold tl;rw [hx];rfl
  have hne:(((Pl.hd ts).k:Int) != (k:Int))=false:=by unfold hk at hx;simp at hx ⊢;omega
  have HNE:=Z (hk_ne hk0 hx)
  go_enter Tryz.func63,Tryz.ntmps63
  go_wp2_with fail
  refine (U HP).mono ?_
  rintro e w1 ⟨rfl,hr,hk1⟩
  obtain ⟨p,c1,cf,hp,rfl,hr2⟩:=hr.next HNE.out
  have HR2:=Z hr2
  have hz1:=hr.lt
  clear hr hr2
  go_wp2_with fail
  go_ret
  exact ⟨rfl,by rw [HT.out];exact HR2.out,hk1.set _ _⟩
def tokR (ts:List Pl.Tok)(k:Nat):Pl.Tok:=if hk ts k=true then Pl.hd ts else ⟨0,0,[]⟩
def nx (ts:List Pl.Tok)(k:Nat):List Pl.Tok:=if hk ts k=true then ts.tail else []
def bx (ts:List Pl.Tok)(k:Nat)(b:Bool):Bool:=b || !hk ts k
theorem nx_yes {ts:List Pl.Tok}{k:Nat}{b:Bool}(h:hk ts k=true):nx ts k=ts.tail/\bx ts k b=b/\tokR ts k=Pl.hd ts/\tl ts k=ts.tail:=by
 unfold nx bx tokR tl;simp [h]
theorem nx_no {ts:List Pl.Tok}{k:Nat}{b:Bool}(h:hk ts k=false):nx ts k=[]/\bx ts k b=true/\tokR ts k=⟨0,0,[]⟩/\tl ts k=ts:=by
 unfold nx bx tokR tl;simp [h]
theorem RC.setNew {w w0:World}{rb:Nat}{T ts:List Pl.Tok}{d:Nat}{b:Bool}(h:RC w rb T ts d b)(hz:rb<w0.heap.size)(o:Nat)(x:Value):RC (w.setCell ⟨w0.heap.size,o,none⟩ x) rb T ts d b:=by
 obtain ⟨v,p,h1,h2,h3,h4,h5,h6⟩:=h
 refine ⟨v,p,blk_set_ne h1 (by omega) _ _,h2,h3,h4,h5,?_⟩
 rcases h6 with h6|⟨g,cap,cur,k1,k2,k3,k4⟩
 ·exact .inl h6
 ·exact .inr ⟨g,cap,cur,k1,k2,blk_set_ne k3 (by omega) _ _,k4⟩
theorem RC.drop {w:World}{rb:Nat}{T ts:List Pl.Tok}{d:Nat}{b:Bool}(h:RC w rb T ts d b):T.drop (T.length - ts.length)=ts/\ts.length<=T.length:=by
 obtain ⟨v,p,h1,h2,h3,h4,h5⟩:=h
 subst h3
 simp only [List.length_drop]
 rw [show T.length - (T.length - p)=p by omega]
 exact ⟨rfl,by omega⟩
theorem RC.last {w:World}{rb:Nat}{T ts:List Pl.Tok}{d:Nat}{b:Bool}(h:RC w rb T ts.tail d b)(hd:T.drop (T.length - ts.length)=ts/\ts.length<=T.length)(hne:ts≠[]) :
 ∃ g cap q:Nat,w.cell? ⟨rb,0,none⟩=some (.slice (some ⟨g,0,none⟩) T.length cap)/\w.cell? ⟨rb,1,none⟩=some (.int .i64 ((q:Int)+1))/\(∀ o,w.frozen? ⟨rb,o,none⟩=false)/\q<T.length/\T.length<=1048576/\True/\g<rb/\g<w.heap.size /\
  w.cell? ⟨g,q*3,none⟩=some (.int .i64 (Pl.hd ts).k)/\w.cell? ⟨g,q*3+1,none⟩=some (.int .i64 (Pl.hd ts).n)/\w.cell? ⟨g,q*3+2,none⟩=some (.string ⟨(Pl.hd ts).s.toArray⟩):=by
 obtain ⟨v,p,h1,h2,h3,h4,h5⟩:=h
 have hts:0<ts.length:=by cases ts with
  | nil=>exact absurd rfl hne
  | cons a l=>simp
 have hlen:T.length - p=ts.length - 1:=by have:=congrArg List.length h3;simpa using this
 have hq:T.length - ts.length<T.length:=by omega
 have hp:p=(T.length - ts.length)+1:=by omega
 obtain ⟨g,cap,rfl,hgr,hgz,e0,e1,e2⟩:=h5.cells hq
 have hhd:T[T.length - ts.length]=Pl.hd ts:=by
  have:=(hd_drop T _ hq).1;rw [hd.1] at this;exact this.symm
 rw [hhd] at e0 e1 e2
 rw [show 3*(T.length - ts.length)=(T.length - ts.length)*3 by omega] at e0 e1 e2
 refine ⟨g,cap,T.length - ts.length,by simpa using bC h1 0,?_,bF h1,hq,h5.1,trivial,hgr,hgz,e0,e1,e2⟩
 have:=bC h1 1
 simp at this
 rw [this,hp];rfl
theorem tokenC (k:Nat)(hk0:k≠0)(rb:Nat)(T ts:List Pl.Tok)(d:Nat)(b:Bool)(w:World)(hR:RC w rb T ts d b) :
 Calls Tryz.prog 208 #[.pointer (some ⟨rb,0,none⟩),.int .i64 k] w fun e w'=>e=.returned (Pl.cTok (tokR ts k))/\RC w' rb T (nx ts k) d (bx ts k b)/\Keeps rb w w':=by
 have HP:=Z (takeC k hk0 rb T ts d b)
 have HR:=Z hR
 have hz:=hR.lt
 clear hR
 cases hx:hk ts k
 ·obtain ⟨e1,e2,e3,e4⟩:=nx_no (b:=b) hx
  rw [hx,e4] at HP
  rw [e1,e2,e3]
  clear e1 e2 e3 e4
  go_enter Tryz.func208,Tryz.ntmps208
  go_wp2_with fail
  refine (U HP _ (HR.out.alloc _)).mono ?_
  rintro e w1 ⟨rfl,hr1,hk1⟩
  have HR1:=Z hr1
  have HK1:=Z hk1
  clear hr1 hk1
  go_wp2_with fail
  refine (failC rb T ts d b w1 HR1.out).mono ?_
  rintro e w2 ⟨rfl,hr2,hk2⟩
  have hbx:=(HK1.out.trans hk2).blk (by omega) (blk_new w (.cells #[.int .i64 0,.int .i64 0,.string { data:=#[] }] 180))
  have b0:=bC hbx 0
  have b1:=bC hbx 1
  have b2:=bC hbx 2
  have bf:=bF hbx
  have hzb:=lB hbx
  simp at b0 b1 b2
  have HR2:=Z hr2
  have HK2:=Z (((Keeps.refl rb w).alloc (.cells #[.int .i64 0,.int .i64 0,.string { data:=#[] }] 180)).trans (HK1.out.trans hk2))
  clear hr2 hk2 hbx
  go_wp2_with fail
  refine bodyPost_ret (v:=.agg #[.int .i64 0,.int .i64 0,.string ⟨#[]⟩]) ?_ rfl ⟨rfl,((HR2.out.setNew hz _ _).setNew hz _ _).setNew hz _ _,((HK2.out.setNew (Nat.le_refl _) _).setNew (Nat.le_refl _) _).setNew (Nat.le_refl _) _⟩
  simp [results,Tryz.results208,go_sem,b0,b1,b2]
 ·obtain ⟨e1,e2,e3,e4⟩:=nx_yes (b:=b) hx
  rw [hx,e4] at HP
  rw [e1,e2,e3]
  have HNE:=Z (hk_ne hk0 hx)
  have HD:=Z HR.out.drop
  clear e1 e2 e3 e4
  go_enter Tryz.func208,Tryz.ntmps208
  go_wp2_with fail
  refine (U HP _ (HR.out.alloc _)).mono ?_
  rintro e w1 ⟨rfl,hr1,hk1⟩
  obtain ⟨g,cap,q,c0,c1,cf,hq,hqT,hT,hgr,hgz,t0,t1,t2⟩:=hr1.last HD.out HNE.out
  have hbx:=hk1.blk (by omega) (blk_new w (.cells #[.int .i64 0,.int .i64 0,.string { data:=#[] }] 180))
  have b0:=bC hbx 0
  have b1:=bC hbx 1
  have b2:=bC hbx 2
  have bf:=bF hbx
  have hzb:=lB hbx
  have hz1:=hr1.lt
  simp at b0 b1 b2
  have HR1:=Z hr1
  have HK1:=Z (((Keeps.refl rb w).alloc (.cells #[.int .i64 0,.int .i64 0,.string { data:=#[] }] 180)).trans hk1)
  clear hr1 hk1 hbx
  generalize hht:Pl.hd ts=tk at *
  have HHT:=Z hht
  clear hht
  go_wp2_with fail
  go_region
  go_wp2_with fail
  refine bodyPost_ret (v:=.agg #[.int .i64 tk.k,.int .i64 tk.n,.string ⟨tk.s.toArray⟩]) ?_ rfl ⟨?_,?_,?_⟩
  ·simp [results,Tryz.results208,go_sem,b0,b1,b2]
  ·rw [HHT.out];rfl
  ·exact (((HR1.out.setNew hz _ _).setNew hz _ _).setNew hz _ _).drew
  ·exact (((HK1.out.setNew (Nat.le_refl _) _).setNew (Nat.le_refl _) _).setNew (Nat.le_refl _) _).drew
theorem fieldTok1 (a b c:Value)(w:World):(Instr.field 180 (.agg #[a,b,c]) 1).run Tryz.prog w=.ok b w:=by simp [Instr.field,go_sem,asAgg]
theorem fieldTok2 (a b c:Value)(w:World):(Instr.field 180 (.agg #[a,b,c]) 2).run Tryz.prog w=.ok c w:=by simp [Instr.field,go_sem,asAgg]
theorem nameC (rb:Nat)(T ts:List Pl.Tok)(d:Nat)(b:Bool)(w:World)(hR:RC w rb T ts d b) :
 Calls Tryz.prog 150 #[.pointer (some ⟨rb,0,none⟩)] w fun e w'=>e=.returned (.string ⟨(tokR ts 1).s.toArray⟩)/\RC w' rb T (nx ts 1) d (bx ts 1 b)/\Keeps rb w w':=by
 have HC:=Z (tokenC 1 (by decide) rb T ts d b w hR)
 clear hR
 have hf:=fieldTok2
 go_enter Tryz.func150,Tryz.ntmps150
 go_wp2_with fail
 refine (U HC).mono ?_
 rintro e w1 ⟨rfl,hr,hk1⟩
 rw [Pl.cTok_eq]
 go_wp2_with fail
 go_ret
 exact ⟨rfl,hr,hk1⟩
theorem numberC (rb:Nat)(T ts:List Pl.Tok)(d:Nat)(b:Bool)(w:World)(hR:RC w rb T ts d b) :
 Calls Tryz.prog 215 #[.pointer (some ⟨rb,0,none⟩)] w fun e w'=>e=.returned (.int .i64 (tokR ts 2).n)/\RC w' rb T (nx ts 2) d (bx ts 2 b)/\Keeps rb w w':=by
 have HC:=Z (tokenC 2 (by decide) rb T ts d b w hR)
 clear hR
 have hf:=fieldTok1
 go_enter Tryz.func215,Tryz.ntmps215
 go_wp2_with fail
 refine (U HC).mono ?_
 rintro e w1 ⟨rfl,hr,hk1⟩
 rw [Pl.cTok_eq]
 go_wp2_with fail
 go_ret
 exact ⟨rfl,hr,hk1⟩
def needs:List Nat->List Pl.Tok->Option (List Pl.Tok)
 | [],ts=>some ts
 | k :: ks,ts=>if hk ts k=true then needs ks ts.tail else none
def RCo (w:World)(rb:Nat)(T:List Pl.Tok)(o:Option (List Pl.Tok))(d:Nat)(b:Bool):Prop:=match o with
 | some r=>RC w rb T r d b
 | none=>RC w rb T [] d true
def kindsAt (w:World)(lb:Nat)(ks:List Nat):Prop:=lb<w.heap.size/\∀ i (h:i<ks.length),w.cell? ⟨lb,i,none⟩=some (.int .i64 ks[i])
def needAt (ks:List Nat)(i:Nat)(o:Option (List Pl.Tok))(ts:List Pl.Tok)(fl:Bool):Prop :=
 (fl=false/\needs (ks.drop i) ts=o)\/(fl=true/\ts=[]/\o=none)
theorem needC (ks:List Nat)(n:Nat)(hn:ks.length=n)(h0:∀ k ∈ ks,k≠0)(hn1:n<=100)(lb cp:Nat)(rb:Nat)(T ts:List Pl.Tok)(d:Nat)(b:Bool)(w:World)(hR:RC w rb T ts d b)(hL:kindsAt w lb ks)(hne:lb≠rb) :
 Calls Tryz.prog 149 #[.pointer (some ⟨rb,0,none⟩),.slice (some ⟨lb,0,none⟩) n cp] w fun e w'=>e=.returned (.tuple #[])/\RCo w' rb T (needs ks ts) d b/\Keeps rb w w':=by
 subst hn
 have HR:=Z hR
 have HL:=Z hL
 have H0:=Z h0
 clear hR hL h0
 go_enter Tryz.func149,Tryz.ntmps149
 go_wp2_with fail
 go_loopw [8] (fun a wr=>∃ i:Nat,i<=ks.length/\a=.int .i64 i/\Hid (∃ ts' fl,RC wr rb T ts' d (b || fl)/\needAt ks i (needs ks ts) ts' fl)/\Hid (Keeps rb w wr)) (fun a _=>ks.length - (intOf a).toNat)
 case atStart=>exact ⟨0,Nat.zero_le _,rfl,⟨ts,false,by simpa using HR.out,.inl ⟨rfl,rfl⟩⟩,Keeps.refl _ _⟩
 case round =>
  obtain ⟨i,hi,rfl,HS,HK⟩:=hrel
  by_cases hlt:i<ks.length
  ·have hc:wr.cell? ⟨lb,i,none⟩=some (.int .i64 ks[i]):=by rw [HK.out.cell HL.out.1 hne];exact HL.out.2 i hlt
   obtain ⟨ts',fl,hrc,hna⟩:=HS.out
   have HC:=Z (tokenC ks[i] (H0.out _ (List.getElem_mem hlt)) rb T ts' d (b || fl) wr hrc)
   have HN:Hid (∀ w1,RC w1 rb T (nx ts' ks[i]) d (bx ts' ks[i] (b || fl))->∃ ts2 fl2,RC w1 rb T ts2 d (b || fl2)/\needAt ks (i+1) (needs ks ts) ts2 fl2):=by
    intro w1 h1
    cases hx:hk ts' ks[i]
    ·obtain ⟨e1,e2,_,_⟩:=nx_no (b:=b || fl) hx
     rw [e1,e2] at h1
     refine ⟨[],true,by simpa using h1,.inr ⟨rfl,rfl,?_⟩⟩
     rcases hna with ⟨_,h2⟩|⟨_,_,h2⟩
     ·rw [<- h2,List.drop_eq_getElem_cons hlt,needs,hx];rfl
     ·exact h2
    ·obtain ⟨e1,e2,_,_⟩:=nx_yes (b:=b || fl) hx
     rw [e1,e2] at h1
     rcases hna with ⟨rfl,h2⟩|⟨_,h2,_⟩
     ·refine ⟨ts'.tail,false,h1,.inl ⟨rfl,?_⟩⟩
      rw [<- h2,List.drop_eq_getElem_cons hlt,needs,hx];rfl
     ·subst h2;exact absurd rfl (hk_ne (H0.out _ (List.getElem_mem hlt)) hx)
   clear hrc hna
   generalize ks[i]=kk at *
   go_wp2_with fail
   refine (U HC).mono ?_
   rintro e w1 ⟨rfl,hr,hk1⟩
   have HR1:=Z (HN.out w1 hr)
   have HK1:=Z (HK.out.trans hk1)
   clear hr hk1 HC HN HS
   go_wp2_with fail
   go_roundw
   case rel=>exact ⟨i+1,by omega,by go_num,HR1,HK1⟩
   case measure=>simp [intOf];omega
  ·have HE:Hid (RCo wr rb T (needs ks ts) d b):=by
    obtain ⟨ts',fl,hrc,hna⟩:=HS.out
    unfold Hid
    rcases hna with ⟨rfl,h2⟩|⟨rfl,rfl,h2⟩
    ·rw [List.drop_eq_nil_of_le (by omega)] at h2
     rw [<- h2]
     simpa [needs,RCo] using hrc
    ·rw [h2]
     simpa [RCo] using hrc
   go_wp2_with fail
   exact bodyPost_end (v:=.tuple #[]) (by simp [results,Tryz.results149,go_sem]) rfl ⟨rfl,HE.out,HK.out⟩
def CTree (w:World)(rb:Nat):Pl.T->Value->Prop
 | .nil,v=>v=.pointer none
 | .node _ _ a l r,v=>∃ (n:Nat) (vl vr:Value),v=.pointer (some ⟨n,0,none⟩)/\rb<n /\
  w.heap[n]?=some (.cells #[.int .i64 a.op,.int .i64 a.kind,.int .i64 a.n,.string ⟨a.s.toArray⟩,.string ⟨a.src.toArray⟩,.string ⟨a.name.toArray⟩,vl,vr] 269)/\CTree w rb l vl/\CTree w rb r vr
theorem CTree.keeps {w w':World}{rb:Nat}(hk:Keeps rb w w'):∀ {t:Pl.T}{v:Value},CTree w rb t v->CTree w' rb t v
 | .nil,_,h=>h
 | .node _ _ a l r,v,⟨n,vl,vr,hv,hn,hb,hl,hr⟩=>⟨n,vl,vr,hv,hn,hk.blk (by omega) hb,CTree.keeps hk hl,CTree.keeps hk hr⟩
theorem CTree.lit {w:World}{rb n:Nat}(hn:rb<n)(kind m:Int)(s:ByteArray)(l:List UInt8)(hs:s=⟨l.toArray⟩)(hb:w.heap[n]?=some (.cells #[.int .i64 0,.int .i64 kind,.int .i64 m,.string s,.string { data:=#[] },.string { data:=#[] },.pointer none,.pointer none] 269)) :
 CTree w rb (Pl.tLit kind m l) (.pointer (some ⟨n,0,none⟩)):=by subst hs;exact ⟨n,_,_,rfl,hn,hb,rfl,rfl⟩
theorem CTree.name {w:World}{rb n:Nat}(hn:rb<n)(src nm:List UInt8)(hb:w.heap[n]?=some (.cells #[.int .i64 1,.int .i64 0,.int .i64 0,.string { data:=#[] },.string ⟨src.toArray⟩,.string ⟨nm.toArray⟩,.pointer none,.pointer none] 269)) :
 CTree w rb (Pl.tName src nm) (.pointer (some ⟨n,0,none⟩)):=⟨n,_,_,rfl,hn,hb,rfl,rfl⟩
theorem CTree.one {w:World}{rb n:Nat}(hn:rb<n)(op:Nat)(x:Pl.T)(vx:Value)(hb:w.heap[n]?=some (.cells #[.int .i64 op,.int .i64 0,.int .i64 0,.string { data:=#[] },.string { data:=#[] },.string { data:=#[] },vx,.pointer none] 269))(hx:CTree w rb x vx) :
 CTree w rb (Pl.tOne op x) (.pointer (some ⟨n,0,none⟩)):=⟨n,_,_,rfl,hn,hb,hx,rfl⟩
theorem CTree.two {w:World}{rb n:Nat}(hn:rb<n)(op:Nat)(x y:Pl.T)(vx vy:Value)(hb:w.heap[n]?=some (.cells #[.int .i64 op,.int .i64 0,.int .i64 0,.string { data:=#[] },.string { data:=#[] },.string { data:=#[] },vx,vy] 269))(hx:CTree w rb x vx)(hy:CTree w rb y vy) :
 CTree w rb (Pl.tTwo op x y) (.pointer (some ⟨n,0,none⟩)):=⟨n,_,_,rfl,hn,hb,hx,hy⟩
def PostR (w:World)(rb:Nat)(T:List Pl.Tok)(d:Nat)(b:Bool)(spec:Option (Pl.T × List Pl.Tok))(e:Ending)(w':World):Prop :=
 Keeps rb w w'/\∃ v:Option Addr,e=.returned (.pointer v)/\match spec with
  | some (x,r)=>CTree w' rb x (.pointer v)/\RC w' rb T r d b
  | none=>RC w' rb T [] d true
theorem PostR.some_ {w w':World}{rb:Nat}{T:List Pl.Tok}{d:Nat}{b:Bool}{x:Pl.T}{r:List Pl.Tok}{spec:Option (Pl.T × List Pl.Tok)}{v:Option Addr}(hs:spec=some (x,r))(hk:Keeps rb w w')(ht:CTree w' rb x (.pointer v))(hr:RC w' rb T r d b) :
 PostR w rb T d b spec (.returned (.pointer v)) w':=by subst hs;exact ⟨hk,v,rfl,ht,hr⟩
theorem PostR.none_ {w w':World}{rb:Nat}{T:List Pl.Tok}{d:Nat}{b:Bool}{spec:Option (Pl.T × List Pl.Tok)}{v:Option Addr}(hs:spec=none)(hk:Keeps rb w w')(hr:RC w' rb T [] d true) :
 PostR w rb T d b spec (.returned (.pointer v)) w':=by subst hs;exact ⟨hk,v,rfl,hr⟩
def CQ (f:FuncId)(d:Nat)(p:Pl.P):Prop:=∀ rb T ts b w,RC w rb T ts d b->Calls Tryz.prog f #[.pointer (some ⟨rb,0,none⟩)] w (PostR w rb T d b (p ts))
theorem literalC (kind m:Int)(s:ByteArray)(w:World) :
 Calls Tryz.prog 336 #[.agg #[.int .i64 kind,.int .i64 m,.string s]] w fun e w'=>∃ n,e=.returned (.pointer (some ⟨n,0,none⟩))/\w.heap.size<=n/\w'.heap[n]?=some (.cells #[.int .i64 0,.int .i64 kind,.int .i64 m,.string s,.string { data:=#[] },.string { data:=#[] },.pointer none,.pointer none] 269)/\Below w.heap.size w w':=by
 go_enter Tryz.func336,Tryz.ntmps336
 go_wp2_with fail
 go_ret
 refine ⟨_,rfl,?_,blk_new' _ _ _ (by simp),?_⟩
 ·simp
 ·exact ((Below.refl _ _).alloc (Nat.le_refl _) _).alloc (by simp) _
theorem nxn {ts:List Pl.Tok}{k:Nat}(h:(Pl.hd ts).k=k):hk ts k=true:=by unfold hk;simp [h]
theorem nxf {ts:List Pl.Tok}{k:Nat}(h:(Pl.hd ts).k≠k):hk ts k=false:=by unfold hk;simp [h]
namespace Pl
def pCol:P:=fun ts=>if (hd ts.tail).k=10 then (if (hd ts.tail.tail).k=1 then some (tName (hd ts).s (hd ts.tail.tail).s,ts.tail.tail.tail) else none) else some (tName [] (hd ts).s,ts.tail)
end Pl
theorem columnC (rb:Nat)(T ts:List Pl.Tok)(d:Nat)(b:Bool)(w:World)(hR:RC w rb T ts d b)(h1:(Pl.hd ts).k=1) :
 Calls Tryz.prog 337 #[.pointer (some ⟨rb,0,none⟩)] w (PostR w rb T d b (Pl.pCol ts)):=by
 have HN:=Z (nameC rb T ts d b w hR)
 obtain ⟨e1,e2,e3,_⟩:=nx_yes (b:=b) (nxn h1)
 rw [e1,e2,e3] at HN
 have hz:=hR.lt
 clear hR e1 e2 e3 h1
 by_cases h10:(Pl.hd ts.tail).k=10
 ·have HV:Hid (Pl.pCol ts=if (Pl.hd ts.tail.tail).k=1 then some (Pl.tName (Pl.hd ts).s (Pl.hd ts.tail.tail).s,ts.tail.tail.tail) else none):=by unfold Hid Pl.pCol;rw [if_pos h10]
  have hx:=nxn h10
  obtain ⟨_,_,_,e4⟩:=nx_yes (b:=b) hx
  go_enter Tryz.func337,Tryz.ntmps337
  go_wp2_with fail
  refine (U HN).mono ?_
  rintro e w1 ⟨rfl,hr1,hk1⟩
  have HT:=Z (takeC 10 (by decide) rb T ts.tail d b w1 hr1)
  rw [hx,e4] at HT
  have HK1:=Z hk1
  clear hr1 hk1 HN hx e4
  go_wp2_with fail
  refine (U HT).mono ?_
  rintro e w2 ⟨rfl,hr2,hk2⟩
  have HN2:=Z (nameC rb T ts.tail.tail d b w2 hr2)
  have HK2:=Z (HK1.out.trans hk2)
  have hz2:=hr2.lt
  clear hr2 hk2 HT HK1
  go_wp2_with fail
  refine (U HN2).mono ?_
  rintro e w3 ⟨rfl,hr3,hk3⟩
  have HR3:=Z hr3
  have HK3:=Z (HK2.out.trans hk3)
  have hz3:=hr3.lt
  clear hr3 hk3
  go_wp2_with fail
  go_ret
  by_cases h11:(Pl.hd ts.tail.tail).k=1
  ·obtain ⟨e1,e2,e3,_⟩:=nx_yes (b:=b) (nxn h11)
   have h:=HR3.out
   rw [e1,e2] at h
   rw [e3]
   exact PostR.some_ (by rw [HV.out,if_pos h11]) (HK3.out.alloc _) (CTree.name (by omega) _ _ (blk_new _ _)) (h.alloc _)
  ·obtain ⟨e1,e2,e3,_⟩:=nx_no (b:=b) (nxf h11)
   have h:=HR3.out
   rw [e1,e2] at h
   exact PostR.none_ (by rw [HV.out,if_neg h11]) (HK3.out.alloc _) (h.alloc _)
 ·have HV:Hid (Pl.pCol ts=some (Pl.tName [] (Pl.hd ts).s,ts.tail)):=by unfold Hid Pl.pCol;rw [if_neg h10]
  have hx:=nxf h10
  obtain ⟨_,_,_,e4⟩:=nx_no (b:=b) hx
  go_enter Tryz.func337,Tryz.ntmps337
  go_wp2_with fail
  refine (U HN).mono ?_
  rintro e w1 ⟨rfl,hr1,hk1⟩
  have HT:=Z (takeC 10 (by decide) rb T ts.tail d b w1 hr1)
  rw [hx,e4] at HT
  have HK1:=Z hk1
  clear hr1 hk1 HN hx e4
  go_wp2_with fail
  refine (U HT).mono ?_
  rintro e w2 ⟨rfl,hr2,hk2⟩
  have HR2:=Z hr2
  have HK2:=Z (HK1.out.trans hk2)
  have hz2:=hr2.lt
  clear hr2 hk2 HT HK1
  go_wp2_with fail
  go_ret
  exact PostR.some_ HV.out (HK2.out.alloc _) (CTree.name (by omega) _ _ (blk_new _ _)) (HR2.out.alloc _)
open Go.RowKit Go.Deep
set_option linter.unusedSimpArgs false
set_option linter.unusedVariables false
theorem RC.deep {w:World}{rb:Nat}{T ts:List Pl.Tok}{d:Nat}{b:Bool}(h:RC w rb T ts d b)(d':Nat)(x:Int)(hx:x=d'):RC (w.setCell ⟨rb,2,none⟩ (.int .i64 x)) rb T ts d' b:=by
 obtain ⟨v,p,h1,h2,h3,h4,h5⟩:=h
 subst hx
 exact ⟨v,p,by simpa using bS h1 2 (.int .i64 d'),h2,h3,h4,h5.keeps ((Keeps.refl _ _).set _ _)⟩
theorem RC.c {w:World}{rb:Nat}{T ts:List Pl.Tok}{d:Nat}{b:Bool}(h:RC w rb T ts d b):w.cell? ⟨rb,2,none⟩=some (.int .i64 d)/\w.cell? ⟨rb,3,none⟩=some (.bool b)/\(∀ o,w.frozen? ⟨rb,o,none⟩=false):=by
 obtain ⟨v,p,h1,_⟩:=h
 exact ⟨by simpa using bC h1 2,by simpa using bC h1 3,bF h1⟩
theorem RC.below {w w':World}{rb:Nat}{T ts:List Pl.Tok}{d:Nat}{b:Bool}(h:RC w rb T ts d b)(hb:Below w.heap.size w w'):RC w' rb T ts d b :=
 h.keeps ((Keeps.refl _ _).below hb) (hb.block rb h.lt)
def Ent (f:FuncId):Prop:=∀ (a:Array Value)(w:World),(callFunc f a).run Tryz.prog w=.ok (.enter f a) w
theorem deeperC (f:FuncId)(he:Ent f)(d:Nat)(hd:d<=20)(q:Pl.P)(H:d<20->CQ f (d+1) q)(H0:d=20->∀ ts,q ts=none)(rb:Nat)(T ts:List Pl.Tok)(b:Bool)(w:World)(hR:RC w rb T ts d b) :
 Calls Tryz.prog 283 #[.pointer (some ⟨rb,0,none⟩),.func (.func f) #[.pointer (some ⟨rb,0,none⟩)] #[]] w (PostR w rb T d b (q ts)):=by
 obtain ⟨c2,c3,cf⟩:=hR.c
 have hz:=hR.lt
 have HR:=Z hR
 have he':∀ (a:Array Value) (w:World),(callFunc f a).run Tryz.prog w=.ok (.enter f a) w:=he
 by_cases h20:d<20
 ·have HH:=Z (H h20)
  have hne:((d:Int) == 20)=false:=by simp;omega
  have HRd:=Z (hR.deep (d+1) ((d:Int)+1) (by omega))
  clear hR H H0 he
  go_enter Tryz.func283,Tryz.ntmps283
  go_wp2_with fail
  refine (U HH rb T ts b _ HRd.out).mono ?_
  rintro e w1 ⟨hk1,a,rfl,hp⟩
  have HK1:=Z (((Keeps.refl rb w).set 2 (.int .i64 ((d:Int)+1))).trans hk1)
  clear hk1
  cases hq:q ts with
  | none =>
   rw [hq] at hp
   obtain ⟨r2,r3,rf⟩:=hp.c
   have hz1:=hp.lt
   have HP:=Z (hp.deep d (d:Int) rfl)
   clear hp
   go_wp2_with fail
   go_ret
   exact PostR.none_ hq (HK1.out.set _ _) HP.out
  | some y =>
   obtain ⟨x,r⟩:=y
   rw [hq] at hp
   obtain ⟨hx,hr⟩:=hp
   obtain ⟨r2,r3,rf⟩:=hr.c
   have hz1:=hr.lt
   have HP:=Z (hr.deep d (d:Int) rfl)
   have HX:=Z hx
   clear hr hx
   go_wp2_with fail
   go_ret
   exact PostR.some_ hq (HK1.out.set _ _) (HX.out.keeps ((Keeps.refl _ _).set _ _)) HP.out
 ·have hd20:d=20:=by omega
  subst hd20
  have HV:=Z (H0 rfl ts)
  clear H H0 he hR
  go_enter Tryz.func283,Tryz.ntmps283
  go_wp2_with fail
  refine (failC rb T ts 20 b w HR.out).mono ?_
  rintro e w1 ⟨rfl,hr1,hk1⟩
  go_wp2_with fail
  go_ret
  exact PostR.none_ HV.out hk1 hr1
namespace Pl
def pBr (val:P):P:=fun ts=>if (hd ts).k=7 then match val ts.tail with
 | none=>none
 | some (x,r)=>if (hd r).k=8 then some (x,r.tail) else none
 else none
end Pl
theorem kinds_new (w:World)(ks:List Nat)(C:Array Value)(t:TypeId)(hC:C=(ks.map (fun k=>Value.int .i64 (k:Nat))).toArray):kindsAt (w.alloc (.cells C t)) w.heap.size ks:=by
 refine ⟨by simp,fun i h=>?_⟩
 rw [bC (blk_new w _)]
 subst hC
 simp [h]
theorem needs1 {ts:List Pl.Tok}{k:Nat}:needs [k] ts=if (Pl.hd ts).k=k then some ts.tail else none:=by
 unfold needs hk needs;simp
theorem bracketsC (d:Nat)(hd:d<=20)(val:Pl.P)(H:d<20->CQ 154 (d+1) val)(H0:d=20->∀ ts,val ts=none):CQ 338 d (Pl.pBr val):=by
 intro rb T ts b w hR
 have HT:=Z (takeC 7 (by decide) rb T ts d b w hR)
 have HDp:=Z (deeperC 154 (fun a w=>by go_simp) d hd val H H0 rb T)
 clear H H0 hR
 by_cases h7:(Pl.hd ts).k=7
 ·have hx:=nxn h7
  obtain ⟨_,_,_,e4⟩:=nx_yes (b:=b) hx
  rw [hx,e4] at HT
  have HV:Hid (Pl.pBr val ts=match val ts.tail with|none=>none|some (x,r)=>if (Pl.hd r).k=8 then some (x,r.tail) else none):=by unfold Hid Pl.pBr;rw [if_pos h7]
  clear hx e4
  go_enter Tryz.func338,Tryz.ntmps338
  go_wp2_with fail
  refine (U HT).mono ?_
  rintro e w1 ⟨rfl,hr1,hk1⟩
  have HR1:=Z hr1
  have HK1:=Z hk1
  clear hr1 hk1 HT
  go_wp2_with fail
  refine (U HDp ts.tail b w1 HR1.out).mono ?_
  rintro e w2 ⟨hk2,a,rfl,hp⟩
  have HK2:=Z (HK1.out.trans hk2)
  clear hk2 HK1 HR1
  cases hv:val ts.tail with
  | none =>
   rw [hv] at hp
   have hz2:=hp.lt
   have HN:=Z (needC [8] 1 rfl (by decide) (by decide) w2.heap.size 1 rb T [] d true _ (hp.alloc (.cells #[.int .i64 8] 129)) (kinds_new w2 [8] _ _ rfl) (by omega))
   have HV2:Hid (Pl.pBr val ts=none):=by unfold Hid;rw [HV.out,hv]
   clear hp hv
   go_wp2_with fail
   refine (U HN).mono ?_
   rintro e w3 ⟨rfl,hr3,hk3⟩
   go_wp2_with fail
   go_ret
   exact PostR.none_ HV2.out ((HK2.out.alloc _).trans hk3) hr3
  | some y =>
   obtain ⟨x,r⟩:=y
   rw [hv] at hp
   obtain ⟨hx,hr⟩:=hp
   have hz2:=hr.lt
   have HX:=Z hx
   have HN:=Z (needC [8] 1 rfl (by decide) (by decide) w2.heap.size 1 rb T r d b _ (hr.alloc (.cells #[.int .i64 8] 129)) (kinds_new w2 [8] _ _ rfl) (by omega))
   rw [needs1] at HN
   have HV2:Hid (Pl.pBr val ts=if (Pl.hd r).k=8 then some (x,r.tail) else none):=by unfold Hid;rw [HV.out,hv]
   clear hr hx hv
   go_wp2_with fail
   refine (U HN).mono ?_
   rintro e w3 ⟨rfl,hr3,hk3⟩
   have HR3:=Z hr3
   have HK3:=Z ((HK2.out.alloc (.cells #[.int .i64 8] 129)).trans hk3)
   have HX3:=Z (HX.out.keeps (((Keeps.refl _ _).alloc (.cells #[.int .i64 8] 129)).trans hk3))
   clear hr3 hk3 HN
   go_wp2_with fail
   go_ret
   have h:=HR3.out
   by_cases h8:(Pl.hd r).k=8
   ·rw [if_pos h8] at h
    exact PostR.some_ (by rw [HV2.out,if_pos h8]) HK3.out HX3.out h
   ·rw [if_neg h8] at h
    exact PostR.none_ (by rw [HV2.out,if_neg h8]) HK3.out h
 ·have hx:=nxf h7
  obtain ⟨_,_,_,e4⟩:=nx_no (b:=b) hx
  rw [hx,e4] at HT
  have HV:Hid (Pl.pBr val ts=none):=by unfold Hid Pl.pBr;rw [if_neg h7]
  clear hx e4
  go_enter Tryz.func338,Tryz.ntmps338
  go_wp2_with fail
  refine (U HT).mono ?_
  rintro e w1 ⟨rfl,hr1,hk1⟩
  have HR1:=Z hr1
  have HK1:=Z hk1
  clear hr1 hk1 HT
  go_wp2_with fail
  refine (failC rb T ts d b w1 HR1.out).mono ?_
  rintro e w2 ⟨rfl,hr2,hk2⟩
  go_wp2_with fail
  go_ret
  exact PostR.none_ HV.out (HK1.out.trans hk2) hr2
theorem singleC (d:Nat)(v:Pl.Lv)(HB:CQ 338 d (Pl.pBr v.val)):CQ 335 d v.single:=by
 intro rb T ts b w hR
 have HP:=Z (peekC rb T ts d b w hR)
 have hz:=hR.lt
 have HBr:=Z HB
 clear hR HB
 by_cases h2:(Pl.hd ts).k=2
 ·have HV:Hid (v.single ts=some (Pl.tLit 1 (Pl.hd ts).n [],ts.tail)):=by unfold Hid Pl.Lv.single Pl.pSingle;simp [h2]
  have hx:=nxn h2
  obtain ⟨e1,e2,e3,_⟩:=nx_yes (b:=b) hx
  go_enter Tryz.func335,Tryz.ntmps335
  go_wp2_with fail
  refine (U HP).mono ?_
  rintro e w1 ⟨rfl,hr1,hk1⟩
  rw [h2]
  have HN:=Z (numberC rb T ts d b w1 hr1)
  rw [e1,e2,e3] at HN
  have HK1:=Z hk1
  clear hr1 hk1 HP e1 e2 e3 hx
  go_wp2_with fail
  refine (U HN).mono ?_
  rintro e w2 ⟨rfl,hr2,hk2⟩
  have HR2:=Z hr2
  have HK2:=Z (HK1.out.trans hk2)
  clear hr2 hk2 HN
  go_wp2_with fail
  refine (literalC 1 (Pl.hd ts).n { data:=#[] } _).mono ?_
  rintro e wl ⟨n,rfl,hn,hb,hw⟩
  have HRl:=Z (HR2.out.below hw)
  have HKl:=Z (HK2.out.below hw)
  have hzl:=HR2.out.lt
  have HBl:=Z hb
  clear hb hw
  go_wp2_with fail
  go_ret
  exact PostR.some_ HV.out HKl.out (CTree.lit (by omega) _ _ _ _ rfl HBl.out) HRl.out
 by_cases h3:(Pl.hd ts).k=3
 ·have HV:Hid (v.single ts=some (Pl.tLit 2 0 (Pl.hd ts).s,ts.tail)):=by unfold Hid Pl.Lv.single Pl.pSingle;simp [h3]
  have hx:=nxn h3
  obtain ⟨e1,e2,e3,_⟩:=nx_yes (b:=b) hx
  have hf:=fieldTok2
  go_enter Tryz.func335,Tryz.ntmps335
  go_wp2_with fail
  refine (U HP).mono ?_
  rintro e w1 ⟨rfl,hr1,hk1⟩
  rw [h3]
  have HN:=Z (tokenC 3 (by decide) rb T ts d b w1 hr1)
  rw [e1,e2,e3,Pl.cTok_eq] at HN
  have HK1:=Z hk1
  clear hr1 hk1 HP e1 e2 e3 hx
  go_wp2_with fail
  refine (U HN).mono ?_
  rintro e w2 ⟨rfl,hr2,hk2⟩
  have HR2:=Z hr2
  have HK2:=Z (HK1.out.trans hk2)
  clear hr2 hk2 HN
  go_wp2_with fail
  refine (literalC 2 0 _ _).mono ?_
  rintro e wl ⟨n,rfl,hn,hb,hw⟩
  have HRl:=Z (HR2.out.below hw)
  have HKl:=Z (HK2.out.below hw)
  have hzl:=HR2.out.lt
  have HBl:=Z hb
  clear hb hw
  go_wp2_with fail
  go_ret
  exact PostR.some_ HV.out HKl.out (CTree.lit (by omega) _ _ _ _ rfl HBl.out) HRl.out
 by_cases h1:(Pl.hd ts).k=1
 ·have HV:Hid (v.single ts=Pl.pCol ts):=by unfold Hid Pl.Lv.single Pl.pSingle Pl.pCol;simp [h1]
  go_enter Tryz.func335,Tryz.ntmps335
  go_wp2_with fail
  refine (U HP).mono ?_
  rintro e w1 ⟨rfl,hr1,hk1⟩
  rw [h1]
  have HN:=Z (columnC rb T ts d b w1 hr1 h1)
  have HK1:=Z hk1
  clear hr1 hk1 HP
  go_wp2_with fail
  refine (U HN).mono ?_
  rintro e w2 ⟨hk2,a,rfl,hp⟩
  go_wp2_with fail
  go_ret
  exact ⟨HK1.out.trans hk2,a,rfl,by rw [HV.out];exact hp⟩
 by_cases h46:(Pl.hd ts).k=46
 ·skip
  have HV:Hid (v.single ts=some (Pl.tLit 3 1 [],ts.tail)):=by unfold Hid Pl.Lv.single Pl.pSingle;simp [h46]
  have hx46:=nxn h46
  go_enter Tryz.func335,Tryz.ntmps335
  go_wp2_with fail
  refine (U HP).mono ?_
  rintro e w1 ⟨rfl,hr1,hk1⟩
  rw [h46]
  have HRR0:=Z hr1
  have HKK0:=Z hk1
  clear hr1 hk1 HP
  have HT0:=Z (takeC 46 (by decide) rb T ts d b w1 HRR0.out)
  rw [hx46,(nx_yes (b:=b) hx46).2.2.2] at HT0
  go_wp2_with fail
  refine (U HT0).mono ?_
  rintro e w2 ⟨rfl,hrr,hkk⟩
  have HRR1:=Z hrr
  have HKK1:=Z (HKK0.out.trans hkk)
  clear hrr hkk HT0
  go_wp2_with fail
  refine (literalC 3 1 { data:=#[] } _).mono ?_
  rintro e wl ⟨n,rfl,hn,hb,hw⟩
  have HRl:=Z (HRR1.out.below hw)
  have HKl:=Z (HKK1.out.below hw)
  have hzl:=HRR1.out.lt
  have HBl:=Z hb
  clear hb hw
  go_wp2_with fail
  go_ret
  exact PostR.some_ HV.out HKl.out (CTree.lit (by omega) _ _ _ _ rfl HBl.out) HRl.out
 by_cases h47:(Pl.hd ts).k=47
 ·skip
  have HV:Hid (v.single ts=some (Pl.tLit 3 0 [],ts.tail)):=by unfold Hid Pl.Lv.single Pl.pSingle;simp [h47]
  have hx46:=(nxf (k:=46) (ts:=ts) (by omega))
  have hx47:=nxn h47
  go_enter Tryz.func335,Tryz.ntmps335
  go_wp2_with fail
  refine (U HP).mono ?_
  rintro e w1 ⟨rfl,hr1,hk1⟩
  rw [h47]
  have HRR0:=Z hr1
  have HKK0:=Z hk1
  clear hr1 hk1 HP
  have HT0:=Z (takeC 46 (by decide) rb T ts d b w1 HRR0.out)
  rw [hx46,(nx_no (b:=b) hx46).2.2.2] at HT0
  go_wp2_with fail
  refine (U HT0).mono ?_
  rintro e w2 ⟨rfl,hrr,hkk⟩
  have HRR1:=Z hrr
  have HKK1:=Z (HKK0.out.trans hkk)
  clear hrr hkk HT0
  have HT1:=Z (takeC 47 (by decide) rb T ts d b w2 HRR1.out)
  rw [hx47,(nx_yes (b:=b) hx47).2.2.2] at HT1
  go_wp2_with fail
  refine (U HT1).mono ?_
  rintro e w3 ⟨rfl,hrr,hkk⟩
  have HRR2:=Z hrr
  have HKK2:=Z (HKK1.out.trans hkk)
  clear hrr hkk HT1
  go_wp2_with fail
  refine (literalC 3 0 { data:=#[] } _).mono ?_
  rintro e wl ⟨n,rfl,hn,hb,hw⟩
  have HRl:=Z (HRR2.out.below hw)
  have HKl:=Z (HKK2.out.below hw)
  have hzl:=HRR2.out.lt
  have HBl:=Z hb
  clear hb hw
  go_wp2_with fail
  go_ret
  exact PostR.some_ HV.out HKl.out (CTree.lit (by omega) _ _ _ _ rfl HBl.out) HRl.out
 by_cases h45:(Pl.hd ts).k=45
 ·skip
  have HV:Hid (v.single ts=some (Pl.tLit 0 0 [],ts.tail)):=by unfold Hid Pl.Lv.single Pl.pSingle;simp [h45]
  have hx46:=(nxf (k:=46) (ts:=ts) (by omega))
  have hx47:=(nxf (k:=47) (ts:=ts) (by omega))
  have hx45:=nxn h45
  go_enter Tryz.func335,Tryz.ntmps335
  go_wp2_with fail
  refine (U HP).mono ?_
  rintro e w1 ⟨rfl,hr1,hk1⟩
  rw [h45]
  have HRR0:=Z hr1
  have HKK0:=Z hk1
  clear hr1 hk1 HP
  have HT0:=Z (takeC 46 (by decide) rb T ts d b w1 HRR0.out)
  rw [hx46,(nx_no (b:=b) hx46).2.2.2] at HT0
  go_wp2_with fail
  refine (U HT0).mono ?_
  rintro e w2 ⟨rfl,hrr,hkk⟩
  have HRR1:=Z hrr
  have HKK1:=Z (HKK0.out.trans hkk)
  clear hrr hkk HT0
  have HT1:=Z (takeC 47 (by decide) rb T ts d b w2 HRR1.out)
  rw [hx47,(nx_no (b:=b) hx47).2.2.2] at HT1
  go_wp2_with fail
  refine (U HT1).mono ?_
  rintro e w3 ⟨rfl,hrr,hkk⟩
  have HRR2:=Z hrr
  have HKK2:=Z (HKK1.out.trans hkk)
  clear hrr hkk HT1
  have HT2:=Z (takeC 45 (by decide) rb T ts d b w3 HRR2.out)
  rw [hx45,(nx_yes (b:=b) hx45).2.2.2] at HT2
  go_wp2_with fail
  refine (U HT2).mono ?_
  rintro e w4 ⟨rfl,hrr,hkk⟩
  have HRR3:=Z hrr
  have HKK3:=Z (HKK2.out.trans hkk)
  clear hrr hkk HT2
  go_wp2_with fail
  refine (literalC 0 0 { data:=#[] } _).mono ?_
  rintro e wl ⟨n,rfl,hn,hb,hw⟩
  have HRl:=Z (HRR3.out.below hw)
  have HKl:=Z (HKK3.out.below hw)
  have hzl:=HRR3.out.lt
  have HBl:=Z hb
  clear hb hw
  go_wp2_with fail
  go_ret
  exact PostR.some_ HV.out HKl.out (CTree.lit (by omega) _ _ _ _ rfl HBl.out) HRl.out
 have HV:Hid (v.single ts=Pl.pBr v.val ts):=by unfold Hid Pl.Lv.single Pl.pSingle Pl.pBr;simp [h1,h2,h3,h45,h46,h47];rfl
 have hx46:=nxf h46
 have hx47:=nxf h47
 have hx45:=nxf h45
 have g1:(((Pl.hd ts).k:Int) == 1)=false:=by simp;omega
 have g2:(((Pl.hd ts).k:Int) == 2)=false:=by simp;omega
 have g3:(((Pl.hd ts).k:Int) == 3)=false:=by simp;omega
 go_enter Tryz.func335,Tryz.ntmps335
 go_wp2_with fail
 refine (U HP).mono ?_
 rintro e w1 ⟨rfl,hr1,hk1⟩
 have HRR0:=Z hr1
 have HKK0:=Z hk1
 clear hr1 hk1 HP
 have HT0:=Z (takeC 46 (by decide) rb T ts d b w1 HRR0.out)
 rw [hx46,(nx_no (b:=b) hx46).2.2.2] at HT0
 go_wp2_with fail
 refine (U HT0).mono ?_
 rintro e w2 ⟨rfl,hrr,hkk⟩
 have HRR1:=Z hrr
 have HKK1:=Z (HKK0.out.trans hkk)
 clear hrr hkk HT0
 have HT1:=Z (takeC 47 (by decide) rb T ts d b w2 HRR1.out)
 rw [hx47,(nx_no (b:=b) hx47).2.2.2] at HT1
 go_wp2_with fail
 refine (U HT1).mono ?_
 rintro e w3 ⟨rfl,hrr,hkk⟩
 have HRR2:=Z hrr
 have HKK2:=Z (HKK1.out.trans hkk)
 clear hrr hkk HT1
 have HT2:=Z (takeC 45 (by decide) rb T ts d b w3 HRR2.out)
 rw [hx45,(nx_no (b:=b) hx45).2.2.2] at HT2
 go_wp2_with fail
 refine (U HT2).mono ?_
 rintro e w4 ⟨rfl,hrr,hkk⟩
 have HRR3:=Z hrr
 have HKK3:=Z (HKK2.out.trans hkk)
 clear hrr hkk HT2
 go_wp2_with fail
 refine (U HBr rb T ts b _ HRR3.out).mono ?_
 rintro e w5 ⟨hk5,a,rfl,hp⟩
 go_wp2_with fail
 go_ret
 exact ⟨HKK3.out.trans hk5,a,rfl,by rw [HV.out];exact hp⟩
theorem signedC (d:Nat)(hd:d<=20)(v:Pl.Lv)(H:d<20->CQ 333 (d+1) v.sgn)(H0:d=20->∀ ts,v.sgn ts=none)(HO:CQ 335 d v.single):CQ 333 d v.signed:=by
 intro rb T ts b w hR
 have HT:=Z (takeC 16 (by decide) rb T ts d b w hR)
 have HDp:=Z (deeperC 333 (fun a w=>by go_simp) d hd v.sgn H H0 rb T)
 have HOth:=Z HO
 clear H H0 hR HO
 by_cases hk:(Pl.hd ts).k=16
 ·have hx:=nxn hk
  obtain ⟨_,_,_,e4⟩:=nx_yes (b:=b) hx
  rw [hx,e4] at HT
  have HV:Hid (v.signed ts=match v.sgn ts.tail with|none=>none|some (x,r)=>some (Pl.tOne 2 x,r)):=by unfold Hid Pl.Lv.signed Pl.pSigned;rw [if_pos hk];rfl
  clear hx e4
  go_enter Tryz.func333,Tryz.ntmps333
  go_wp2_with fail
  refine (U HT).mono ?_
  rintro e w1 ⟨rfl,hr1,hk1⟩
  have HR1:=Z hr1
  have HK1:=Z hk1
  clear hr1 hk1 HT
  go_wp2_with fail
  refine (U HDp ts.tail b w1 HR1.out).mono ?_
  rintro e w2 ⟨hk2,a,rfl,hp⟩
  have HK2:=Z (HK1.out.trans hk2)
  have HP:=Z hp
  clear hk2 HK1 HR1 hp
  go_wp2_with fail
  go_ret
  have hp:=HP.out
  cases hv:v.sgn ts.tail with
  | none =>
   rw [hv] at hp
   exact PostR.none_ (by rw [HV.out,hv]) (HK2.out.alloc _) (hp.alloc _)
  | some y =>
   obtain ⟨x,r⟩:=y
   rw [hv] at hp
   exact PostR.some_ (by rw [HV.out,hv]) (HK2.out.alloc _) (CTree.one hp.2.lt 2 x _ (blk_new _ _) (hp.1.keeps ((Keeps.refl _ _).alloc _))) (hp.2.alloc _)
 ·have hx:=nxf hk
  obtain ⟨_,_,_,e4⟩:=nx_no (b:=b) hx
  rw [hx,e4] at HT
  have HV:Hid (v.signed ts=v.single ts):=by unfold Hid Pl.Lv.signed Pl.pSigned;rw [if_neg hk]
  clear hx e4
  go_enter Tryz.func333,Tryz.ntmps333
  go_wp2_with fail
  refine (U HT).mono ?_
  rintro e w1 ⟨rfl,hr1,hk1⟩
  have HR1:=Z hr1
  have HK1:=Z hk1
  clear hr1 hk1 HT
  go_wp2_with fail
  refine (U HOth rb T ts b w1 HR1.out).mono ?_
  rintro e w2 ⟨hk2,a,rfl,hp⟩
  go_wp2_with fail
  go_ret
  exact ⟨HK1.out.trans hk2,a,rfl,by rw [HV.out];exact hp⟩
theorem noC (d:Nat)(hd:d<=20)(v:Pl.Lv)(H:d<20->CQ 250 (d+1) v.no)(H0:d=20->∀ ts,v.no ts=none)(HO:CQ 284 d v.comp):CQ 250 d v.no':=by
 intro rb T ts b w hR
 have HT:=Z (takeC 43 (by decide) rb T ts d b w hR)
 have HDp:=Z (deeperC 250 (fun a w=>by go_simp) d hd v.no H H0 rb T)
 have HOth:=Z HO
 clear H H0 hR HO
 by_cases hk:(Pl.hd ts).k=43
 ·have hx:=nxn hk
  obtain ⟨_,_,_,e4⟩:=nx_yes (b:=b) hx
  rw [hx,e4] at HT
  have HV:Hid (v.no' ts=match v.no ts.tail with|none=>none|some (x,r)=>some (Pl.tOne 3 x,r)):=by unfold Hid Pl.Lv.no' Pl.pNo;rw [if_pos hk];rfl
  clear hx e4
  go_enter Tryz.func250,Tryz.ntmps250
  go_wp2_with fail
  refine (U HT).mono ?_
  rintro e w1 ⟨rfl,hr1,hk1⟩
  have HR1:=Z hr1
  have HK1:=Z hk1
  clear hr1 hk1 HT
  go_wp2_with fail
  refine (U HDp ts.tail b w1 HR1.out).mono ?_
  rintro e w2 ⟨hk2,a,rfl,hp⟩
  have HK2:=Z (HK1.out.trans hk2)
  have HP:=Z hp
  clear hk2 HK1 HR1 hp
  go_wp2_with fail
  go_ret
  have hp:=HP.out
  cases hv:v.no ts.tail with
  | none =>
   rw [hv] at hp
   exact PostR.none_ (by rw [HV.out,hv]) (HK2.out.alloc _) (hp.alloc _)
  | some y =>
   obtain ⟨x,r⟩:=y
   rw [hv] at hp
   exact PostR.some_ (by rw [HV.out,hv]) (HK2.out.alloc _) (CTree.one hp.2.lt 3 x _ (blk_new _ _) (hp.1.keeps ((Keeps.refl _ _).alloc _))) (hp.2.alloc _)
 ·have hx:=nxf hk
  obtain ⟨_,_,_,e4⟩:=nx_no (b:=b) hx
  rw [hx,e4] at HT
  have HV:Hid (v.no' ts=v.comp ts):=by unfold Hid Pl.Lv.no' Pl.pNo;rw [if_neg hk]
  clear hx e4
  go_enter Tryz.func250,Tryz.ntmps250
  go_wp2_with fail
  refine (U HT).mono ?_
  rintro e w1 ⟨rfl,hr1,hk1⟩
  have HR1:=Z hr1
  have HK1:=Z hk1
  clear hr1 hk1 HT
  go_wp2_with fail
  refine (U HOth rb T ts b w1 HR1.out).mono ?_
  rintro e w2 ⟨hk2,a,rfl,hp⟩
  go_wp2_with fail
  go_ret
  exact ⟨HK1.out.trans hk2,a,rfl,by rw [HV.out];exact hp⟩
open Go.RowKit Go.Deep
set_option linter.unusedSimpArgs false
set_option linter.unusedVariables false
def LoopC (w wr:World)(rb:Nat)(T:List Pl.Tok)(d:Nat)(b:Bool)(part:Pl.P)(op:Nat->Option Nat)(sp:Option (Pl.T × List Pl.Tok))(g:Nat)(a:Option Addr):Prop :=
 Keeps rb w wr/\((∃ x ts,ts.length<g/\CTree wr rb x (.pointer a)/\RC wr rb T ts d b/\Pl.chain part op (ts.length+1) x ts=sp)\/(0<g/\RC wr rb T [] d true/\sp=none))
theorem loopC_start {w w1:World}{rb:Nat}{T ts:List Pl.Tok}{d:Nat}{b:Bool}{part:Pl.P}{op:Nat->Option Nat}{a:Option Addr}(hs:Pl.Shr part)(hk:Keeps rb w w1)(hp:match part ts with
 | some (x,r)=>CTree w1 rb x (.pointer a)/\RC w1 rb T r d b
 | none=>RC w1 rb T [] d true):LoopC w w1 rb T d b part op (Pl.chained part op ts) (ts.length+1) a:=by
 refine ⟨hk,?_⟩
 unfold Pl.chained
 cases hq:part ts with
 | none=>rw [hq] at hp;exact .inr ⟨by omega,hp,rfl⟩
 | some y =>
  obtain ⟨x,r⟩:=y
  rw [hq] at hp
  exact .inl ⟨x,r,by have:=hs _ _ _ hq;omega,hp.1,hp.2,rfl⟩
theorem bothC (d:Nat)(part:Pl.P)(hs:Pl.Shr part)(HP:CQ 250 d part):CQ 210 d (Pl.chained part Pl.andOp):=by
 intro rb T ts b w hR
 have HPt:=Z HP
 have HR:=Z hR
 have HS:=Z hs
 have hz:=hR.lt
 clear HP hR hs
 generalize hsp:Pl.chained part Pl.andOp ts=sp
 have HSP:=Z hsp
 clear hsp
 go_enter Tryz.func210,Tryz.ntmps210
 go_wp2_with fail
 refine (U HPt rb T ts b w HR.out).mono ?_
 rintro e w1 ⟨hk1,a,rfl,hp⟩
 have HL:=Z (loopC_start (op:=Pl.andOp) HS.out hk1 hp)
 rw [HSP.out] at HL
 clear hk1 hp
 go_wp2_with fail
 go_loopg [3] (ts.length+1) (fun g x wr=>∃ a,x=.pointer a/\Hid (LoopC w wr rb T d b part Pl.andOp sp g a))
 case atStart=>exact ⟨a,rfl,HL⟩
 case round =>
  obtain ⟨a',rfl,HI⟩:=hrel
  clear HL
  obtain ⟨hk,hi⟩:=HI.out
  have HK:=Z hk
  clear hk HI
  rcases hi with ⟨x,tr,hg,hx,hr,hc⟩|⟨hg,hr,hn⟩
  ·have HX:=Z hx
   have HC:=Z hc
   have hzr:=hr.lt
   have HT:=Z (takeC 41 (by decide) rb T tr d b _ hr)
   clear hx hc hr
   by_cases h4:(Pl.hd tr).k=41
   ·have hop:Pl.andOp (Pl.hd tr).k=some 17:=by unfold Pl.andOp;rw [if_pos h4]
    have hxx:=nxn h4
    rw [hxx,(nx_yes (b:=b) hxx).2.2.2] at HT
    have HOP:=Z hop
    clear hop hxx h4
    go_wp2_with fail
    refine (U HT).mono ?_
    rintro e w2 ⟨rfl,hr2,hk2⟩
    have HR2:=Z hr2
    have HK2:=Z (HK.out.trans hk2)
    have HX2:=Z (HX.out.keeps hk2)
    clear hr2 hk2 HT
    go_wp2_with fail
    refine (U HPt rb T tr.tail b w2 HR2.out).mono ?_
    rintro e w3 ⟨hk3,a3,rfl,hp3⟩
    have HK3:=Z (HK2.out.trans hk3)
    have HX3:=Z (HX2.out.keeps hk3)
    clear hk3
    cases hq:part tr.tail with
    | none =>
     rw [hq] at hp3
     have HP3:=Z hp3
     have HN:Hid (sp=none):=by unfold Hid;rw [<- HC.out];exact chain_bad HOP.out hq
     have htr:1<=tr.length:=by
      have:tr≠[]:=fun e=>by have h:=HOP.out;rw [e] at h;cases h
      cases tr with
      | nil=>exact absurd rfl this
      | cons q l=>simp
     have hgt:=Nat.lt_of_le_of_lt htr hg
     clear hp3 hq
     go_wp2_with fail
     go_roundg 1
     case measure=>exact hgt
     case rel=>exact ⟨_,rfl,HK3.out.alloc _,.inr ⟨by omega,HP3.out.alloc _,HN.out⟩⟩
    | some y =>
     obtain ⟨y,r⟩:=y
     rw [hq] at hp3
     have HP3:=Z hp3
     have HST:=Z (chain_step (x:=x) HS.out rfl HOP.out hq)
     clear hp3 hq
     go_wp2_with fail
     go_roundg (r.length+1)
     case measure=>have:=HST.out.2;omega
     case rel=>exact ⟨_,rfl,HK3.out.alloc _,.inl ⟨_,r,by omega,CTree.two HP3.out.2.lt 17 x y _ _ (blk_new _ _) (HX3.out.keeps ((Keeps.refl _ _).alloc _)) (HP3.out.1.keeps ((Keeps.refl _ _).alloc _)),HP3.out.2.alloc _,by rw [<- HST.out.1,HC.out]⟩⟩
   ·have hop:Pl.andOp (Pl.hd tr).k=none:=by unfold Pl.andOp;rw [if_neg h4]
    have hxx:=nxf h4
    rw [hxx,(nx_no (b:=b) hxx).2.2.2] at HT
    have HN:Hid (sp=some (x,tr)):=by unfold Hid;rw [<- HC.out];exact chain_end hop
    clear hop hxx h4
    go_wp2_with fail
    refine (U HT).mono ?_
    rintro e w2 ⟨rfl,hr2,hk2⟩
    have HR2:=Z hr2
    have HK2:=Z (HK.out.trans hk2)
    have HX2:=Z (HX.out.keeps hk2)
    clear hr2 hk2 HT
    go_wp2_with fail
    go_ret
    exact PostR.some_ HN.out HK2.out HX2.out HR2.out
  ·have HN:=Z hn
   have HT:=Z (takeC 41 (by decide) rb T [] d true _ hr)
   have hxx:hk ([]:List Pl.Tok) 41=false:=rfl
   rw [hxx,(nx_no (b:=b) hxx).2.2.2] at HT
   clear hn hr hxx
   go_wp2_with fail
   refine (U HT).mono ?_
   rintro e w2 ⟨rfl,hr2,hk2⟩
   have HR2:=Z hr2
   have HK2:=Z (HK.out.trans hk2)
   clear hr2 hk2 HT
   go_wp2_with fail
   go_ret
   exact PostR.none_ HN.out HK2.out HR2.out
theorem valueC (d:Nat)(part:Pl.P)(hs:Pl.Shr part)(HP:CQ 210 d part):CQ 154 d (Pl.chained part Pl.orOp):=by
 intro rb T ts b w hR
 have HPt:=Z HP
 have HR:=Z hR
 have HS:=Z hs
 have hz:=hR.lt
 clear HP hR hs
 generalize hsp:Pl.chained part Pl.orOp ts=sp
 have HSP:=Z hsp
 clear hsp
 go_enter Tryz.func154,Tryz.ntmps154
 go_wp2_with fail
 refine (U HPt rb T ts b w HR.out).mono ?_
 rintro e w1 ⟨hk1,a,rfl,hp⟩
 have HL:=Z (loopC_start (op:=Pl.orOp) HS.out hk1 hp)
 rw [HSP.out] at HL
 clear hk1 hp
 go_wp2_with fail
 go_loopg [3] (ts.length+1) (fun g x wr=>∃ a,x=.pointer a/\Hid (LoopC w wr rb T d b part Pl.orOp sp g a))
 case atStart=>exact ⟨a,rfl,HL⟩
 case round =>
  obtain ⟨a',rfl,HI⟩:=hrel
  clear HL
  obtain ⟨hk,hi⟩:=HI.out
  have HK:=Z hk
  clear hk HI
  rcases hi with ⟨x,tr,hg,hx,hr,hc⟩|⟨hg,hr,hn⟩
  ·have HX:=Z hx
   have HC:=Z hc
   have hzr:=hr.lt
   have HT:=Z (takeC 42 (by decide) rb T tr d b _ hr)
   clear hx hc hr
   by_cases h4:(Pl.hd tr).k=42
   ·have hop:Pl.orOp (Pl.hd tr).k=some 18:=by unfold Pl.orOp;rw [if_pos h4]
    have hxx:=nxn h4
    rw [hxx,(nx_yes (b:=b) hxx).2.2.2] at HT
    have HOP:=Z hop
    clear hop hxx h4
    go_wp2_with fail
    refine (U HT).mono ?_
    rintro e w2 ⟨rfl,hr2,hk2⟩
    have HR2:=Z hr2
    have HK2:=Z (HK.out.trans hk2)
    have HX2:=Z (HX.out.keeps hk2)
    clear hr2 hk2 HT
    go_wp2_with fail
    refine (U HPt rb T tr.tail b w2 HR2.out).mono ?_
    rintro e w3 ⟨hk3,a3,rfl,hp3⟩
    have HK3:=Z (HK2.out.trans hk3)
    have HX3:=Z (HX2.out.keeps hk3)
    clear hk3
    cases hq:part tr.tail with
    | none =>
     rw [hq] at hp3
     have HP3:=Z hp3
     have HN:Hid (sp=none):=by unfold Hid;rw [<- HC.out];exact chain_bad HOP.out hq
     have htr:1<=tr.length:=by
      have:tr≠[]:=fun e=>by have h:=HOP.out;rw [e] at h;cases h
      cases tr with
      | nil=>exact absurd rfl this
      | cons q l=>simp
     have hgt:=Nat.lt_of_le_of_lt htr hg
     clear hp3 hq
     go_wp2_with fail
     go_roundg 1
     case measure=>exact hgt
     case rel=>exact ⟨_,rfl,HK3.out.alloc _,.inr ⟨by omega,HP3.out.alloc _,HN.out⟩⟩
    | some y =>
     obtain ⟨y,r⟩:=y
     rw [hq] at hp3
     have HP3:=Z hp3
     have HST:=Z (chain_step (x:=x) HS.out rfl HOP.out hq)
     clear hp3 hq
     go_wp2_with fail
     go_roundg (r.length+1)
     case measure=>have:=HST.out.2;omega
     case rel=>exact ⟨_,rfl,HK3.out.alloc _,.inl ⟨_,r,by omega,CTree.two HP3.out.2.lt 18 x y _ _ (blk_new _ _) (HX3.out.keeps ((Keeps.refl _ _).alloc _)) (HP3.out.1.keeps ((Keeps.refl _ _).alloc _)),HP3.out.2.alloc _,by rw [<- HST.out.1,HC.out]⟩⟩
   ·have hop:Pl.orOp (Pl.hd tr).k=none:=by unfold Pl.orOp;rw [if_neg h4]
    have hxx:=nxf h4
    rw [hxx,(nx_no (b:=b) hxx).2.2.2] at HT
    have HN:Hid (sp=some (x,tr)):=by unfold Hid;rw [<- HC.out];exact chain_end hop
    clear hop hxx h4
    go_wp2_with fail
    refine (U HT).mono ?_
    rintro e w2 ⟨rfl,hr2,hk2⟩
    have HR2:=Z hr2
    have HK2:=Z (HK.out.trans hk2)
    have HX2:=Z (HX.out.keeps hk2)
    clear hr2 hk2 HT
    go_wp2_with fail
    go_ret
    exact PostR.some_ HN.out HK2.out HX2.out HR2.out
  ·have HN:=Z hn
   have HT:=Z (takeC 42 (by decide) rb T [] d true _ hr)
   have hxx:hk ([]:List Pl.Tok) 42=false:=rfl
   rw [hxx,(nx_no (b:=b) hxx).2.2.2] at HT
   clear hn hr hxx
   go_wp2_with fail
   refine (U HT).mono ?_
   rintro e w2 ⟨rfl,hr2,hk2⟩
   have HR2:=Z hr2
   have HK2:=Z (HK.out.trans hk2)
   clear hr2 hk2 HT
   go_wp2_with fail
   go_ret
   exact PostR.none_ HN.out HK2.out HR2.out
def oN:Option Nat->Int
 | some o=>(o:Nat)
 | none=>0
def oB:Option Nat->Bool
 | some _=>true
 | none=>false
def opV (o:Option Nat):Value:=.tuple #[.int .i64 (oN o),.bool (oB o)]
def LoopX (w wr:World)(rb:Nat)(T:List Pl.Tok)(d:Nat)(b:Bool)(part:Pl.P)(op:Nat->Option Nat)(sp:Option (Pl.T × List Pl.Tok))(g:Nat)(a:Option Addr)(ts:List Pl.Tok)(b':Bool):Prop :=
 Keeps rb w wr/\RC wr rb T ts d b'/\((b'=b/\∃ x,ts.length<g/\CTree wr rb x (.pointer a)/\Pl.chain part op (ts.length+1) x ts=sp)\/(0<g/\ts=[]/\b'=true/\sp=none))
theorem LoopC.x {w wr:World}{rb:Nat}{T:List Pl.Tok}{d:Nat}{b:Bool}{part:Pl.P}{op:Nat->Option Nat}{sp:Option (Pl.T × List Pl.Tok)}{g:Nat}{a:Option Addr}(h:LoopC w wr rb T d b part op sp g a):∃ ts b',LoopX w wr rb T d b part op sp g a ts b':=by
 obtain ⟨hk,h⟩:=h
 rcases h with ⟨x,ts,h1,h2,h3,h4⟩|⟨h1,h2,h3⟩
 ·exact ⟨ts,b,hk,h3,.inl ⟨rfl,x,h1,h2,h4⟩⟩
 ·exact ⟨[],true,hk,h2,.inr ⟨h1,rfl,rfl,h3⟩⟩
theorem LoopX.keeps {w wr w2:World}{rb:Nat}{T:List Pl.Tok}{d:Nat}{b:Bool}{part:Pl.P}{op:Nat->Option Nat}{sp:Option (Pl.T × List Pl.Tok)}{g:Nat}{a:Option Addr}{ts:List Pl.Tok}{b':Bool}(h:LoopX w wr rb T d b part op sp g a ts b')(hk:Keeps rb wr w2)(hr:RC w2 rb T ts d b'):LoopX w w2 rb T d b part op sp g a ts b':=by
 obtain ⟨h1,h2,h3⟩:=h
 refine ⟨h1.trans hk,hr,?_⟩
 rcases h3 with ⟨e,x,k1,k2,k3⟩|h3
 ·exact .inl ⟨e,x,k1,k2.keeps hk,k3⟩
 ·exact .inr h3
theorem sumOpC (k:Nat)(w:World):Calls Tryz.prog 332 #[.int .i64 k] w fun e w'=>e=.returned (opV (Pl.sumOp k))/\w'=w:=by
 by_cases h1:k=15
 ·subst h1
  go_enter Tryz.func332,Tryz.ntmps332
  go_wp2_with fail
  exact bodyPost_ret (v:=opV (Pl.sumOp 15)) (by simp [results,Tryz.results332,go_sem,opV,oN,oB,Pl.sumOp]) rfl ⟨rfl,rfl⟩
 by_cases h2:k=16
 ·subst h2
  go_enter Tryz.func332,Tryz.ntmps332
  go_wp2_with fail
  exact bodyPost_ret (v:=opV (Pl.sumOp 16)) (by simp [results,Tryz.results332,go_sem,opV,oN,oB,Pl.sumOp]) rfl ⟨rfl,rfl⟩
 have g1:((k:Int) == 15)=false:=by simp;omega
 have g2:((k:Int) == 16)=false:=by simp;omega
 have HV:Hid (Pl.sumOp k=none):=by unfold Hid Pl.sumOp;rw [if_neg h1,if_neg h2]
 go_enter Tryz.func332,Tryz.ntmps332
 go_wp2_with fail
 exact bodyPost_ret (v:=opV none) (by simp [results,Tryz.results332,go_sem,opV,oN,oB]) rfl ⟨by rw [HV.out],rfl⟩
theorem productOpC (k:Nat)(w:World):Calls Tryz.prog 334 #[.int .i64 k] w fun e w'=>e=.returned (opV (Pl.prodOp k))/\w'=w:=by
 by_cases h1:k=17
 ·subst h1
  go_enter Tryz.func334,Tryz.ntmps334
  go_wp2_with fail
  exact bodyPost_ret (v:=opV (Pl.prodOp 17)) (by simp [results,Tryz.results334,go_sem,opV,oN,oB,Pl.prodOp]) rfl ⟨rfl,rfl⟩
 by_cases h2:k=18
 ·subst h2
  go_enter Tryz.func334,Tryz.ntmps334
  go_wp2_with fail
  exact bodyPost_ret (v:=opV (Pl.prodOp 18)) (by simp [results,Tryz.results334,go_sem,opV,oN,oB,Pl.prodOp]) rfl ⟨rfl,rfl⟩
 by_cases h3:k=19
 ·subst h3
  go_enter Tryz.func334,Tryz.ntmps334
  go_wp2_with fail
  exact bodyPost_ret (v:=opV (Pl.prodOp 19)) (by simp [results,Tryz.results334,go_sem,opV,oN,oB,Pl.prodOp]) rfl ⟨rfl,rfl⟩
 have g1:((k:Int) == 17)=false:=by simp;omega
 have g2:((k:Int) == 18)=false:=by simp;omega
 have g3:((k:Int) == 19)=false:=by simp;omega
 have HV:Hid (Pl.prodOp k=none):=by unfold Hid Pl.prodOp;rw [if_neg h1,if_neg h2,if_neg h3]
 go_enter Tryz.func334,Tryz.ntmps334
 go_wp2_with fail
 exact bodyPost_ret (v:=opV none) (by simp [results,Tryz.results334,go_sem,opV,oN,oB]) rfl ⟨by rw [HV.out],rfl⟩
theorem chainC (fp fo:FuncId)(hep:Ent fp)(heo:Ent fo)(d:Nat)(part:Pl.P)(op:Nat->Option Nat)(h0:op 0=none)(hs:Pl.Shr part)(HP:CQ fp d part)(HO:∀ (k:Nat)(w:World),Calls Tryz.prog fo #[.int .i64 k] w fun e w'=>e=.returned (opV (op k))/\w'=w)
 (rb:Nat) (T ts:List Pl.Tok) (b:Bool) (w:World) (hR:RC w rb T ts d b) :
 Calls Tryz.prog 330 #[.pointer (some ⟨rb,0,none⟩),.func (.func fp) #[.pointer (some ⟨rb,0,none⟩)] #[],.func (.func fo) #[] #[]] w (PostR w rb T d b (Pl.chained part op ts)):=by
 have hep':∀ (a:Array Value) (w:World),(callFunc fp a).run Tryz.prog w=.ok (.enter fp a) w:=hep
 have heo':∀ (a:Array Value) (w:World),(callFunc fo a).run Tryz.prog w=.ok (.enter fo a) w:=heo
 have HPt:=Z HP
 have HOt:=Z HO
 have HR:=Z hR
 have HS:=Z hs
 have H0:=Z h0
 have hz:=hR.lt
 clear HP hR hs HO h0 hep heo
 generalize hsp:Pl.chained part op ts=sp
 have HSP:=Z hsp
 clear hsp
 go_enter Tryz.func330,Tryz.ntmps330
 go_wp2_with fail
 refine (U HPt rb T ts b w HR.out).mono ?_
 rintro e w1 ⟨hk1,a,rfl,hp⟩
 have hl:=loopC_start (op:=op) HS.out hk1 hp
 rw [HSP.out] at hl
 obtain ⟨ts1,b1,hl⟩:=hl.x
 have HL:=Z hl
 have hz1:=hk1.size
 have HPk:=Z (peekC rb T ts1 d b1 w1 hl.2.1)
 clear hk1 hp hl
 go_wp2_with fail
 refine (U HPk).mono ?_
 rintro e w2 ⟨rfl,hr2,hk2⟩
 have HL2:=Z (HL.out.keeps hk2 hr2)
 clear hr2 hk2 HPk HL
 go_wp2_with fail
 refine (U HOt (Pl.hd ts1).k w2).mono ?_
 rintro e w3 ⟨rfl,rfl⟩
 unfold opV
 go_wp2_with fail
 go_loopg [7,8,9] (ts.length+1) (fun g x o k wr=>∃ a tr b',x=.pointer a/\o=.int .i64 (oN (op (Pl.hd tr).k))/\k=.bool (oB (op (Pl.hd tr).k))/\Hid (LoopX w wr rb T d b part op sp g a tr b'))
 case atStart=>exact ⟨a,ts1,b1,rfl,rfl,rfl,HL2⟩
 case round =>
  obtain ⟨a',tr,b',rfl,rfl,rfl,HI⟩:=hrel
  clear HL2
  obtain ⟨hk,hr,hi⟩:=HI.out
  have HK:=Z hk
  have hzr:=hr.lt
  cases hop:op (Pl.hd tr).k with
  | none =>
   have HE:Hid (PostR w rb T d b sp (.returned (.pointer a')) wr):=by
    rcases hi with ⟨rfl,x,h1,h2,h3⟩|⟨h1,h2,rfl,h3⟩
    ·exact PostR.some_ (by rw [<- h3];exact chain_end hop) hk h2 hr
    ·exact PostR.none_ h3 hk (h2 ▸ hr)
   clear hk hr hi HI
   rw [show oB none=false from rfl,show oN none=0 from rfl]
   go_wp2_with fail
   go_ret
   exact HE.out
  | some o =>
   rw [show oB (some o)=true from rfl,show oN (some o)=(o:Nat) from rfl]
   rcases hi with ⟨rfl,x,h1,h2,h3⟩|⟨h1,h2,h4,h3⟩
   ·have htr:tr≠[]:=fun e=>by rw [e] at hop;have:=H0.out;rw [show (Pl.hd ([]:List Pl.Tok)).k=0 from rfl,this] at hop;cases hop
    obtain ⟨p,c1,cf,hp,rfl,hr2⟩:=hr.next htr
    have HR2:=Z hr2
    have HX:=Z h2
    have HC:=Z h3
    have HOP:=Z hop
    have htl:1<=tr.length:=by cases tr with
     | nil=>exact absurd rfl htr
     | cons q l=>simp
    clear hk hr HI hr2 h2 h3 hop htr
    go_wp2_with fail
    refine (U HPt rb T tr.tail false _ HR2.out).mono ?_
    rintro e w3 ⟨hk3,a3,rfl,hp3⟩
    have hk3':=(HK.out.set 1 (.int .i64 ((p:Int)+1))).trans hk3
    have hx3:=HX.out.keeps (((Keeps.refl rb wr).set 1 (.int .i64 ((p:Int)+1))).trans hk3)
    have HNX:Hid (∃ g2 tr2 b2,g2<=tr.length/\LoopX w (w3.alloc (.cells #[.int .i64 o,.int .i64 0,.int .i64 0,.string { data:=#[] },.string { data:=#[] },.string { data:=#[] },.pointer a',.pointer a3] 269)) rb T d false part op sp g2 (some ⟨w3.heap.size,0,none⟩) tr2 b2):=by
     cases hq:part tr.tail with
     | none =>
      rw [hq] at hp3
      exact ⟨1,[],true,htl,hk3'.alloc _,hp3.alloc _,.inr ⟨by omega,rfl,rfl,by rw [<- HC.out];exact chain_bad HOP.out hq⟩⟩
     | some y =>
      obtain ⟨y,r⟩:=y
      rw [hq] at hp3
      have hst:=chain_step (x:=x) HS.out H0.out HOP.out hq
      exact ⟨r.length+1,r,false,by omega,hk3'.alloc _,hp3.2.alloc _,.inl ⟨rfl,_,by omega,CTree.two hp3.2.lt o x y _ _ (blk_new _ _) (hx3.keeps ((Keeps.refl _ _).alloc _)) (hp3.1.keeps ((Keeps.refl _ _).alloc _)),by rw [<- hst.1,HC.out]⟩⟩
    clear hk3 hp3 hk3' hx3
    obtain ⟨g2,tr2,b2,hg2,hl⟩:=HNX.out
    have HL4:=Z hl
    have HPk:=Z (peekC rb T tr2 d b2 _ hl.2.1)
    clear hl HNX
    go_wp2_with fail
    refine (U HPk).mono ?_
    rintro e w4 ⟨rfl,hr4,hk4⟩
    have HL5:=Z (HL4.out.keeps hk4 hr4)
    clear hr4 hk4 HPk HL4
    go_wp2_with fail
    refine (U HOt (Pl.hd tr2).k w4).mono ?_
    rintro e w5 ⟨rfl,rfl⟩
    unfold opV
    go_wp2_with fail
    go_roundg g2
    case measure=>exact Nat.lt_of_le_of_lt hg2 h1
    case rel=>exact ⟨_,tr2,b2,rfl,rfl,rfl,HL5⟩
   ·exfalso
    subst h2
    rw [show (Pl.hd ([]:List Pl.Tok)).k=0 from rfl,H0.out] at hop
    cases hop
theorem comparisonOpC (k:Nat)(w:World):Calls Tryz.prog 317 #[.int .i64 k] w fun e w'=>e=.returned (opV (Pl.cmpOp k))/\w'=w:=by
 by_cases h0:k=12
 ·subst h0
  go_enter Tryz.func317,Tryz.ntmps317
  go_wp2_with fail
  exact bodyPost_ret (v:=opV (Pl.cmpOp 12)) (by simp [results,Tryz.results317,go_sem,opV,oN,oB,Pl.cmpOp]) rfl ⟨rfl,rfl⟩
 by_cases h1:k=4
 ·subst h1
  go_enter Tryz.func317,Tryz.ntmps317
  go_wp2_with fail
  exact bodyPost_ret (v:=opV (Pl.cmpOp 4)) (by simp [results,Tryz.results317,go_sem,opV,oN,oB,Pl.cmpOp]) rfl ⟨rfl,rfl⟩
 by_cases h2:k=13
 ·subst h2
  go_enter Tryz.func317,Tryz.ntmps317
  go_wp2_with fail
  exact bodyPost_ret (v:=opV (Pl.cmpOp 13)) (by simp [results,Tryz.results317,go_sem,opV,oN,oB,Pl.cmpOp]) rfl ⟨rfl,rfl⟩
 by_cases h3:k=5
 ·subst h3
  go_enter Tryz.func317,Tryz.ntmps317
  go_wp2_with fail
  exact bodyPost_ret (v:=opV (Pl.cmpOp 5)) (by simp [results,Tryz.results317,go_sem,opV,oN,oB,Pl.cmpOp]) rfl ⟨rfl,rfl⟩
 by_cases h4:k=14
 ·subst h4
  go_enter Tryz.func317,Tryz.ntmps317
  go_wp2_with fail
  exact bodyPost_ret (v:=opV (Pl.cmpOp 14)) (by simp [results,Tryz.results317,go_sem,opV,oN,oB,Pl.cmpOp]) rfl ⟨rfl,rfl⟩
 by_cases h5:k=6
 ·subst h5
  go_enter Tryz.func317,Tryz.ntmps317
  go_wp2_with fail
  exact bodyPost_ret (v:=opV (Pl.cmpOp 6)) (by simp [results,Tryz.results317,go_sem,opV,oN,oB,Pl.cmpOp]) rfl ⟨rfl,rfl⟩
 have g0:((k:Int) == 12)=false:=by simp;omega
 have g1:((k:Int) == 4)=false:=by simp;omega
 have g2:((k:Int) == 13)=false:=by simp;omega
 have g3:((k:Int) == 5)=false:=by simp;omega
 have g4:((k:Int) == 14)=false:=by simp;omega
 have g5:((k:Int) == 6)=false:=by simp;omega
 have HV:Hid (Pl.cmpOp k=none):=by unfold Hid Pl.cmpOp;rw [if_neg h0,if_neg h1,if_neg h2,if_neg h3,if_neg h4,if_neg h5]
 go_enter Tryz.func317,Tryz.ntmps317
 go_wp2_with fail
 exact bodyPost_ret (v:=opV none) (by simp [results,Tryz.results317,go_sem,opV,oN,oB]) rfl ⟨by rw [HV.out],rfl⟩
theorem productC (d:Nat)(part:Pl.P)(hs:Pl.Shr part)(HP:CQ 333 d part):CQ 331 d (Pl.chained part Pl.prodOp):=by
 intro rb T ts b w hR
 have HC:=Z (chainC 333 334 (fun a w=>by go_simp) (fun a w=>by go_simp) d part Pl.prodOp rfl hs HP productOpC rb T ts b w hR)
 clear HP hs hR
 go_enter Tryz.func331,Tryz.ntmps331
 go_wp2_with fail
 refine (U HC).mono ?_
 rintro e w2 ⟨hk2,a,rfl,hp⟩
 go_wp2_with fail
 go_ret
 exact ⟨hk2,a,rfl,hp⟩
theorem sumC (d:Nat)(part:Pl.P)(hs:Pl.Shr part)(HP:CQ 331 d part):CQ 315 d (Pl.chained part Pl.sumOp):=by
 intro rb T ts b w hR
 have HC:=Z (chainC 331 332 (fun a w=>by go_simp) (fun a w=>by go_simp) d part Pl.sumOp rfl hs HP sumOpC rb T ts b w hR)
 clear HP hs hR
 go_enter Tryz.func315,Tryz.ntmps315
 go_wp2_with fail
 refine (U HC).mono ?_
 rintro e w2 ⟨hk2,a,rfl,hp⟩
 go_wp2_with fail
 go_ret
 exact ⟨hk2,a,rfl,hp⟩
theorem nullnessC (rb:Nat)(T ts:List Pl.Tok)(d:Nat)(b:Bool)(x:Pl.T)(a:Option Addr)(w:World)(hR:RC w rb T ts d b)(hx:CTree w rb x (.pointer a)) :
 Calls Tryz.prog 316 #[.pointer (some ⟨rb,0,none⟩),.pointer a] w (PostR w rb T d b (Pl.pIs x ts)):=by
 have HT:=Z (takeC 43 (by decide) rb T ts d b w hR)
 have HX:=Z hx
 have hz:=hR.lt
 clear hR hx
 by_cases h43:(Pl.hd ts).k=43
 ·have hxx:=nxn h43
  rw [hxx,(nx_yes (b:=b) hxx).2.2.2] at HT
  have HV:Hid (Pl.pIs x ts=if (Pl.hd ts.tail).k=45 then some (Pl.tOne 5 x,ts.tail.tail) else none):=by unfold Hid Pl.pIs;rw [if_pos h43]
  clear hxx h43
  go_enter Tryz.func316,Tryz.ntmps316
  go_wp2_with fail
  refine (U HT).mono ?_
  rintro e w1 ⟨rfl,hr1,hk1⟩
  have hz1:=hr1.lt
  have HN:=Z (needC [45] 1 rfl (by decide) (by decide) w1.heap.size 1 rb T ts.tail d b _ (hr1.alloc (.cells #[.int .i64 45] 129)) (kinds_new w1 [45] _ _ rfl) (by omega))
  rw [needs1] at HN
  have HK1:=Z hk1
  have HX1:=Z (HX.out.keeps hk1)
  clear hr1 hk1 HT
  go_wp2_with fail
  refine (U HN).mono ?_
  rintro e w2 ⟨rfl,hr2,hk2⟩
  have HR2:=Z hr2
  have HK2:=Z ((HK1.out.alloc (.cells #[.int .i64 45] 129)).trans hk2)
  have HX2:=Z (HX1.out.keeps (((Keeps.refl _ _).alloc (.cells #[.int .i64 45] 129)).trans hk2))
  clear hr2 hk2 HN
  go_wp2_with fail
  go_ret
  have h:=HR2.out
  by_cases h45:(Pl.hd ts.tail).k=45
  ·rw [if_pos h45] at h
   have h:RC w2 rb T _ d b:=h
   exact PostR.some_ (by rw [HV.out,if_pos h45]) (HK2.out.alloc _) (CTree.one h.lt 5 x _ (blk_new _ _) (HX2.out.keeps ((Keeps.refl _ _).alloc _))) (h.alloc _)
  ·rw [if_neg h45] at h
   have h:RC w2 rb T [] d true:=h
   exact PostR.none_ (by rw [HV.out,if_neg h45]) (HK2.out.alloc _) (h.alloc _)
 ·have hxx:=nxf h43
  rw [hxx,(nx_no (b:=b) hxx).2.2.2] at HT
  have HV:Hid (Pl.pIs x ts=if (Pl.hd ts).k=45 then some (Pl.tOne 4 x,ts.tail) else none):=by unfold Hid Pl.pIs;rw [if_neg h43]
  clear hxx h43
  go_enter Tryz.func316,Tryz.ntmps316
  go_wp2_with fail
  refine (U HT).mono ?_
  rintro e w1 ⟨rfl,hr1,hk1⟩
  have hz1:=hr1.lt
  have HN:=Z (needC [45] 1 rfl (by decide) (by decide) w1.heap.size 1 rb T ts d b _ (hr1.alloc (.cells #[.int .i64 45] 129)) (kinds_new w1 [45] _ _ rfl) (by omega))
  rw [needs1] at HN
  have HK1:=Z hk1
  have HX1:=Z (HX.out.keeps hk1)
  clear hr1 hk1 HT
  go_wp2_with fail
  refine (U HN).mono ?_
  rintro e w2 ⟨rfl,hr2,hk2⟩
  have HR2:=Z hr2
  have HK2:=Z ((HK1.out.alloc (.cells #[.int .i64 45] 129)).trans hk2)
  have HX2:=Z (HX1.out.keeps (((Keeps.refl _ _).alloc (.cells #[.int .i64 45] 129)).trans hk2))
  clear hr2 hk2 HN
  go_wp2_with fail
  go_ret
  have h:=HR2.out
  by_cases h45:(Pl.hd ts).k=45
  ·rw [if_pos h45] at h
   have h:RC w2 rb T _ d b:=h
   exact PostR.some_ (by rw [HV.out,if_pos h45]) (HK2.out.alloc _) (CTree.one h.lt 4 x _ (blk_new _ _) (HX2.out.keeps ((Keeps.refl _ _).alloc _))) (h.alloc _)
  ·rw [if_neg h45] at h
   have h:RC w2 rb T [] d true:=h
   exact PostR.none_ (by rw [HV.out,if_neg h45]) (HK2.out.alloc _) (h.alloc _)
theorem comparisonC (d:Nat)(sum:Pl.P)(HS:CQ 315 d sum):CQ 284 d (Pl.pComp sum):=by
 intro rb T ts b w hR
 have HSt:=Z HS
 have HR:=Z hR
 have hz:=hR.lt
 clear HS hR
 go_enter Tryz.func284,Tryz.ntmps284
 go_wp2_with fail
 refine (U HSt rb T ts b w HR.out).mono ?_
 rintro e w1 ⟨hk1,a,rfl,hp⟩
 have HK1:=Z hk1
 clear hk1
 cases hq:sum ts with
 | none =>
  rw [hq] at hp
  have HV:Hid (Pl.pComp sum ts=none):=by unfold Hid Pl.pComp;rw [hq]
  have HT:=Z (takeC 44 (by decide) rb T [] d true w1 hp)
  rw [show hk ([]:List Pl.Tok) 44=false from rfl,show tl [] 44=[] from rfl] at HT
  clear hp hq
  go_wp2_with fail
  refine (U HT).mono ?_
  rintro e w2 ⟨rfl,hr2,hk2⟩
  have HK2:=Z (HK1.out.trans hk2)
  have HPk:=Z (peekC rb T [] d true w2 hr2)
  clear hr2 hk2 HT
  go_wp2_with fail
  refine (U HPk).mono ?_
  rintro e w3 ⟨rfl,hr3,hk3⟩
  have HK3:=Z (HK2.out.trans hk3)
  have HR3:=Z hr3
  clear hr3 hk3 HPk
  go_wp2_with fail
  refine (comparisonOpC (Pl.hd ([]:List Pl.Tok)).k w3).mono ?_
  rintro e w4 ⟨rfl,rfl⟩
  rw [show opV (Pl.cmpOp (Pl.hd ([]:List Pl.Tok)).k)=.tuple #[.int .i64 0,.bool false] from rfl]
  go_wp2_with fail
  go_ret
  exact PostR.none_ HV.out HK3.out HR3.out
 | some y =>
  obtain ⟨x,r⟩:=y
  rw [hq] at hp
  obtain ⟨hx,hr⟩:=hp
  have HX1:=Z hx
  have HT:=Z (takeC 44 (by decide) rb T r d b w1 hr)
  clear hx hr
  by_cases h44:(Pl.hd r).k=44
  ·have HV:Hid (Pl.pComp sum ts=Pl.pIs x r.tail):=by unfold Hid Pl.pComp;rw [hq];simp only;rw [h44];rfl
   have hxx:=nxn h44
   rw [hxx,(nx_yes (b:=b) hxx).2.2.2] at HT
   clear hxx h44 hq
   go_wp2_with fail
   refine (U HT).mono ?_
   rintro e w2 ⟨rfl,hr2,hk2⟩
   have HK2:=Z (HK1.out.trans hk2)
   have HN:=Z (nullnessC rb T r.tail d b x a w2 hr2 (HX1.out.keeps hk2))
   clear hr2 hk2 HT
   go_wp2_with fail
   refine (U HN).mono ?_
   rintro e w3 ⟨hk3,a3,rfl,hp3⟩
   go_wp2_with fail
   go_ret
   exact ⟨HK2.out.trans hk3,a3,rfl,by rw [HV.out];exact hp3⟩
  ·have hxx:=nxf h44
   rw [hxx,(nx_no (b:=b) hxx).2.2.2] at HT
   clear hxx
   go_wp2_with fail
   refine (U HT).mono ?_
   rintro e w2 ⟨rfl,hr2,hk2⟩
   have HK2:=Z (HK1.out.trans hk2)
   have HX2:=Z (HX1.out.keeps hk2)
   have HPk:=Z (peekC rb T r d b w2 hr2)
   clear hr2 hk2 HT
   go_wp2_with fail
   refine (U HPk).mono ?_
   rintro e w3 ⟨rfl,hr3,hk3⟩
   have HK3:=Z (HK2.out.trans hk3)
   have HX3:=Z (HX2.out.keeps hk3)
   have HR3:=Z hr3
   clear hr3 hk3 HPk
   go_wp2_with fail
   refine (comparisonOpC (Pl.hd r).k w3).mono ?_
   rintro e w4 ⟨rfl,rfl⟩
   cases ho:Pl.cmpOp (Pl.hd r).k with
   | none =>
    have HV:Hid (Pl.pComp sum ts=some (x,r)):=by unfold Hid Pl.pComp;rw [hq];simp only;rw [ho];simp only;rw [if_neg h44]
    rw [show opV none=.tuple #[.int .i64 0,.bool false] from rfl]
    clear ho hq h44
    go_wp2_with fail
    go_ret
    exact PostR.some_ HV.out HK3.out HX3.out HR3.out
   | some o =>
    have HV:Hid (Pl.pComp sum ts=match sum r.tail with|none=>none|some (y,r')=>some (Pl.tTwo o x y,r')):=by unfold Hid Pl.pComp;rw [hq];simp only;rw [ho];rfl
    rw [show opV (some o)=.tuple #[.int .i64 (o:Nat),.bool true] from rfl]
    have hne:r≠[]:=fun e=>by rw [e] at ho;cases ho
    obtain ⟨p,c1,cf,hp5,rfl,hr5⟩:=HR3.out.next hne
    have HR5:=Z hr5
    have hz3:=HR3.out.lt
    clear ho hq h44 hr5 hne
    go_wp2_with fail
    refine (U HSt rb T r.tail false _ HR5.out).mono ?_
    rintro e w6 ⟨hk6,a6,rfl,hp6⟩
    have HK6:=Z ((HK3.out.set 1 (.int .i64 ((p:Int)+1))).trans hk6)
    have HX6:=Z (HX3.out.keeps (((Keeps.refl _ _).set 1 (.int .i64 ((p:Int)+1))).trans hk6))
    have HP6:=Z hp6
    clear hk6 hp6
    go_wp2_with fail
    go_ret
    have hq6:=HP6.out
    cases hv:sum r.tail with
    | none =>
     rw [hv] at hq6
     exact PostR.none_ (by rw [HV.out,hv]) (HK6.out.alloc _) (hq6.alloc _)
    | some y =>
     obtain ⟨y,r'⟩:=y
     rw [hv] at hq6
     exact PostR.some_ (by rw [HV.out,hv]) (HK6.out.alloc _) (CTree.two hq6.2.lt o x y _ _ (blk_new _ _) (HX6.out.keeps ((Keeps.refl _ _).alloc _)) (hq6.1.keeps ((Keeps.refl _ _).alloc _))) (hq6.2.alloc _)
theorem levelC (d:Nat)(hd:d<=20)(v:Pl.Lv)(hshr:Pl.Shr v.signed/\Pl.Shr v.prod/\Pl.Shr v.no'/\Pl.Shr v.both)
 (H:d<20->CQ 154 (d+1) v.val/\CQ 250 (d+1) v.no/\CQ 333 (d+1) v.sgn)
 (H0:d=20->(∀ ts,v.val ts=none)/\(∀ ts,v.no ts=none)/\(∀ ts,v.sgn ts=none)) :
 CQ 154 d v.value/\CQ 250 d v.no'/\CQ 333 d v.signed:=by
 have h1:=singleC d v (bracketsC d hd v.val (fun h=>(H h).1) (fun h=>(H0 h).1))
 have h2:=signedC d hd v (fun h=>(H h).2.2) (fun h=>(H0 h).2.2) h1
 have h3:CQ 331 d v.prod:=productC d v.signed hshr.1 h2
 have h4:CQ 315 d v.sum:=sumC d v.prod hshr.2.1 h3
 have h5:CQ 284 d v.comp:=comparisonC d v.sum h4
 have h6:=noC d hd v (fun h=>(H h).2.1) (fun h=>(H0 h).2.1) h5
 have h7:CQ 210 d v.both:=bothC d v.no' hshr.2.2.1 h6
 have h8:CQ 154 d v.value:=valueC d v.both hshr.2.2.2 h7
 exact ⟨h8,h6,h2⟩
theorem levelsC:∀ (k d:Nat),d+k=20->CQ 154 d (Pl.lv k).value/\CQ 250 d (Pl.lv k).no'/\CQ 333 d (Pl.lv k).signed
 | 0,d,h=>by
  have hs:=Pl.lv_shr 0
  exact levelC d (by omega) _ ⟨hs.2.2.2.2.1,hs.2.2.2.2.2.1,hs.2.2.2.2.2.2.2.2.1,hs.2.2.2.2.2.2.2.2.2.1⟩ (fun h=>by omega) (fun _=>⟨fun _=>rfl,fun _=>rfl,fun _=>rfl⟩)
 | k+1,d,h=>by
  have hs:=Pl.lv_shr (k+1)
  exact levelC d (by omega) _ ⟨hs.2.2.2.2.1,hs.2.2.2.2.2.1,hs.2.2.2.2.2.2.2.2.1,hs.2.2.2.2.2.2.2.2.2.1⟩ (fun _=>levelsC k (d+1) (by omega)) (fun h=>by omega)
theorem codeValue:CQ 154 0 (Pl.pVal 20):=(levelsC 20 0 rfl).1
end Go.Proofs.YtojdpjpldokjmaaGreatDoor
