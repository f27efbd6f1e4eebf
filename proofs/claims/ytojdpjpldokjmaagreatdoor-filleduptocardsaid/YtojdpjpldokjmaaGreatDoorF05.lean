/- The code's lists of a statement: what they hold in memory; values. -/
import Derived.Test.YtojdpjpldokjmaaGreatDoorF04
import Derived.Test.YtojdpjpldokjmaaGreatDoorF03
import Derived.Test.YtojdpjpldokjmaaGreatDoorF02
set_option maxHeartbeats 60000000
set_option maxRecDepth 100000
namespace Go.Proofs.YtojdpjpldokjmaaGreatDoor
open Go.RowKit Go.Deep
set_option linter.unusedSimpArgs false
set_option linter.unusedVariables false
def ItAt (w:World)(rb:Nat)(sh:Pl.It->Value->List Value):List Pl.It->List Value->Prop
 | [],cs=>cs=[]
 | it :: its,cs=>∃ (a:Option Addr) (rest:List Value),cs=sh it (.pointer a)++rest/\CTree w rb it.tree (.pointer a)/\ItAt w rb sh its rest
theorem ItAt.snoc {w:World}{rb:Nat}{sh:Pl.It->Value->List Value}{it:Pl.It}{a:Option Addr}(hx:CTree w rb it.tree (.pointer a)):∀ {its:List Pl.It}{cs:List Value},ItAt w rb sh its cs->ItAt w rb sh (its++[it]) (cs++sh it (.pointer a))
 | [],cs,h=>by
  have:cs=[]:=h
  subst this
  exact ⟨a,[],by simp,hx,rfl⟩
 | j :: its,cs,⟨b,rest,hc,ht,hr⟩=>⟨b,rest++sh it (.pointer a),by rw [hc];simp,ht,ItAt.snoc hx hr⟩
theorem ItAt.mono {w w':World}{rb:Nat}{sh:Pl.It->Value->List Value}(hm:∀ (t:Pl.T)(v:Value),CTree w rb t v->CTree w' rb t v):∀ {its:List Pl.It}{cs:List Value},ItAt w rb sh its cs->ItAt w' rb sh its cs
 | [],_,h=>h
 | _ :: _,_,⟨b,rest,hc,ht,hr⟩=>⟨b,rest,hc,hm _ _ ht,ItAt.mono hm hr⟩
theorem CTree.grown {w w':World}{rb:Nat}{row:Option Nat}(hg:w.grownBy w' row)(hrow:∀ k,row=some k->∃ cur e,w.heap[k]?=some (.cells cur e (0,0))/\e≠269):∀ {t:Pl.T}{v:Value},CTree w rb t v->CTree w' rb t v
 | .nil,_,h=>h
 | .node _ _ a l r,v,⟨n,vl,vr,hv,hn,hb,hl,hr⟩=>⟨n,vl,vr,hv,hn,by
  rw [hg.block n (lB hb) (fun e=>by
   obtain ⟨cur,e',h1,h2⟩:=hrow n e.symm
   rw [hb] at h1
   injection h1 with h1
   injection h1 with _ h1 _
   exact h2 h1.symm),hb],CTree.grown hg hrow hl,CTree.grown hg hrow hr⟩
def ItsW (w:World)(rb base:Nat)(e:TypeId)(size:Nat)(sh:Pl.It->Value->List Value)(its:List Pl.It)(v:Value):Prop:=∃ cs,w.ownsRow base e size v its.length cs/\ItAt w rb sh its cs
theorem ItsW.keeps {w w':World}{rb base:Nat}{e:TypeId}{size:Nat}{sh:Pl.It->Value->List Value}{its:List Pl.It}{v:Value}(hk:Keeps rb w w')(hb:rb<base)(h:ItsW w rb base e size sh its v):ItsW w' rb base e size sh its v:=by
 obtain ⟨cs,h1,h2⟩:=h
 exact ⟨cs,own_keeps hk hb h1,h2.mono (fun t v=>CTree.keeps hk)⟩
theorem RC.grown {w w':World}{rb:Nat}{T ts:List Pl.Tok}{d:Nat}{b:Bool}{row:Option Nat}(h:RC w rb T ts d b)(hg:w.grownBy w' row)(hr:∀ k,row=some k->rb<k):RC w' rb T ts d b:=by
 obtain ⟨v,p,h1,h2,h3,h4,h5,h6⟩:=h
 refine ⟨v,p,by rw [hg.block rb (lB h1) (fun e=>by have:=hr rb e.symm;omega)];exact h1,h2,h3,h4,h5,?_⟩
 rcases h6 with h6|⟨g,cap,cur,k1,k2,k3,k4⟩
 ·exact .inl h6
 ·exact .inr ⟨g,cap,cur,k1,k2,by rw [hg.block g (lB k3) (fun e=>by have:=hr g e.symm;omega)];exact k3,k4⟩
theorem RC.len {w:World}{rb:Nat}{T ts:List Pl.Tok}{d:Nat}{b:Bool}(h:RC w rb T ts d b):ts.length<=1048576:=by
 have h1:=h.drop.2
 obtain ⟨v,p,_,_,_,_,h5⟩:=h
 have:=h5.1
 omega
theorem pushC {w w1 w2:World}{rb:Nat}{T:List Pl.Tok}{e:TypeId}{size n:Nat}{v:Value}{cs C:List Value}{t:TypeId}(he:e≠269)(hrb:rb<w.heap.size)(hk:Keeps rb w w1)(hown:w1.ownsRow w.heap.size e size v n cs)
 (hg:(w1.alloc (.cells C.toArray t)).grownBy w2 v.ownBlock):Keeps rb w w2/\(∀ ts d b,RC w1 rb T ts d b->RC w2 rb T ts d b)/\(∀ t v,CTree w1 rb t v->CTree w2 rb t v):=by
 have hlt:∀ k,v.ownBlock=some k->w.heap.size<=k:=fun k e=>(hown.lt k e).1
 refine ⟨(hk.alloc _).grown hg hlt,fun ts d b h=>(h.alloc _).grown hg (fun k e=>by have:=hlt k e;omega),fun x u h=>?_⟩
 refine CTree.grown hg (fun k hk=>?_) (h.keeps ((Keeps.refl rb w1).alloc _))
 obtain ⟨cur,hc⟩:=own_row (hown.alloc (.cells C.toArray t)) k hk
 exact ⟨cur,_,hc,he⟩
def PostO (val:Pl.It->Value->Value)(w:World)(rb:Nat)(T:List Pl.Tok)(d:Nat)(b:Bool)(spec:Option (Pl.It × List Pl.Tok))(e:Ending)(w':World):Prop :=
 Keeps rb w w'/\∃ (it:Pl.It) (a:Option Addr),e=.returned (val it (.pointer a))/\match spec with
  | some (x,r)=>it=x/\CTree w' rb x.tree (.pointer a)/\RC w' rb T r d b
  | none=>RC w' rb T [] d true
def CO (val:Pl.It->Value->Value)(f:FuncId)(p:Pl.PI):Prop:=∀ rb T ts b w,RC w rb T ts 0 b->Calls Tryz.prog f #[.pointer (some ⟨rb,0,none⟩)] w (PostO val w rb T 0 b (p ts))
def PostL (e:TypeId)(size:Nat)(sh:Pl.It->Value->List Value)(w:World)(rb:Nat)(T:List Pl.Tok)(d:Nat)(b:Bool)(spec:Option (List Pl.It × List Pl.Tok))(en:Ending)(w':World):Prop :=
 Keeps rb w w'/\∃ (a:Option Addr) (n c:Nat),en=.returned (.slice a n c)/\match spec with
  | some (its,r)=>ItsW w' rb w.heap.size e size sh its (.slice a n c)/\RC w' rb T r d b
  | none=>RC w' rb T [] d true
def LoopL (w wr:World)(rb:Nat)(T:List Pl.Tok)(b:Bool)(e:TypeId)(size:Nat)(sh:Pl.It->Value->List Value)(p:Pl.PI)(sp:Option (List Pl.It × List Pl.Tok))(g n:Nat)(v:Value)(cs:List Value):Prop :=
 Keeps rb w wr/\wr.ownsRow w.heap.size e size v n cs/\((∃ its r,n=its.length/\r.length<g/\its.length+r.length<=1048577/\ItAt wr rb sh its cs/\RC wr rb T r 0 b/\(if (Pl.hd r).k=9 then Pl.more p (r.tail.length+1) its r.tail else some (its,r))=sp)\/(0<g/\n<=1048577/\RC wr rb T [] 0 true/\sp=none))
theorem own_new (w1:World)(base n size:Nat)(C:List Value)(t:TypeId)(hb:base<=w1.heap.size)(hn:n<=maxLen)(hC:C.length=n*size):(w1.alloc (.cells C.toArray t)).ownsRow base t size (.slice (some ⟨w1.heap.size,0,none⟩) n n) n C :=
 ⟨hC,.inr ⟨w1.heap.size,n,C.toArray,rfl,hb,blk_new _ _,Nat.le_refl _,hn,by simpa using hC,by rw [<- hC];simp⟩⟩
theorem more_unf {p:Pl.PI}(hp:Pl.ShrI p){acc:List Pl.It}{ts r:List Pl.Tok}{x:Pl.It}(h:p ts=some (x,r)):Pl.more p (ts.length+1) acc ts=if (Pl.hd r).k=9 then Pl.more p (r.tail.length+1) (acc++[x]) r.tail else some (acc++[x],r):=by
 split
 ·exact (Pl.more_step hp h ‹_›).1
 ·exact Pl.more_end h ‹_›
theorem loopL_next {w w1 w2:World}{rb:Nat}{T:List Pl.Tok}{b:Bool}{e:TypeId}{size:Nat}{sh:Pl.It->Value->List Value}{p:Pl.PI}{sp:Option (List Pl.It × List Pl.Tok)}{its:List Pl.It}{tr:List Pl.Tok}{v':Value}{cs:List Value}{it:Pl.It}{a:Option Addr}(hs:Pl.ShrI p)(hk:Keeps rb w w2)
 (hm:∀ ts d b,RC w1 rb T ts d b->RC w2 rb T ts d b) (ht:∀ t v,CTree w1 rb t v->CTree w2 rb t v) (hI:ItAt w1 rb sh its cs) (hb:its.length+tr.length<=1048576) (hown:w2.ownsRow w.heap.size e size v' (its.length+1) (cs++sh it (.pointer a)))
 (hp:match p tr with
  | some (x,r)=>it=x/\CTree w1 rb x.tree (.pointer a)/\RC w1 rb T r 0 b
  | none=>RC w1 rb T [] 0 true) (hsp:Pl.more p (tr.length+1) its tr=sp):LoopL w w2 rb T b e size sh p sp (tr.length+1) (its.length+1) v' (cs++sh it (.pointer a)):=by
 refine ⟨hk,hown,?_⟩
 cases hq:p tr with
 | none =>
  rw [hq] at hp
  refine .inr ⟨by omega,by omega,hm _ _ _ hp,?_⟩
  rw [<- hsp];exact Pl.more_bad hq
 | some y =>
  obtain ⟨x,r⟩:=y
  rw [hq] at hp
  obtain ⟨rfl,h1,h2⟩:=hp
  have:=hs _ _ _ hq
  refine .inl ⟨its++[it],r,by simp,by omega,by simp;omega,(hI.mono ht).snoc (ht _ _ h1),hm _ _ _ h2,?_⟩
  rw [<- hsp,more_unf hs hq]
def valV (_:Pl.It)(v:Value):Value:=v
def shV (_:Pl.It)(v:Value):List Value:=[v]
theorem oneV:CO valV 154 Pl.iValue:=by
 intro rb T ts b w hR
 refine (codeValue rb T ts b w hR).mono ?_
 rintro e w' ⟨hk,v,rfl,hp⟩
 unfold Pl.iValue
 cases hq:Pl.pVal 20 ts with
 | none=>rw [hq] at hp;exact ⟨hk,⟨[],[],0,.nil,false⟩,v,rfl,hp⟩
 | some y =>
  obtain ⟨x,r⟩:=y
  rw [hq] at hp
  exact ⟨hk,⟨[],[],0,x,false⟩,v,rfl,rfl,hp.1,hp.2⟩
theorem Tryz.infoPV:(Tryz.prog.info? 199).map (fun i=>(i.zero,i.size,i.bytes))=some (some (.pointer none),1,8):=by kernel_rfl
theorem listV (f:FuncId)(hef:Ent f)(p:Pl.PI)(hs:Pl.ShrI p)(HP:CO valV f p)(rb:Nat)(T ts:List Pl.Tok)(b:Bool)(w:World)(hR:RC w rb T ts 0 b) :
 Calls Tryz.prog 153 #[.pointer (some ⟨rb,0,none⟩),.func (.func f) #[.pointer (some ⟨rb,0,none⟩)] #[]] w (PostL 199 1 shV w rb T 0 b (Pl.listed p ts)):=by
 have hef':∀ (a:Array Value) (w:World),(callFunc f a).run Tryz.prog w=.ok (.enter f a) w:=hef
 obtain ⟨i0,hi,hz0,hz1,hz2⟩:=info_parts Tryz.infoPV
 have HPt:=Z HP
 have HR:=Z hR
 have HS:=Z hs
 have hz:=hR.lt
 have hlen:=hR.len
 clear HP hR hs hef
 generalize hsp:Pl.listed p ts=sp
 have HSP:=Z hsp
 clear hsp
 go_enter Tryz.func153,Tryz.ntmps153
 go_wp2_with fail
 refine (U HPt rb T ts b w HR.out).mono ?_
 rintro e w1 ⟨hk1,it,a,rfl,hp⟩
 have HK1:=Z hk1
 have HP1:=Z hp
 clear hk1 hp
 unfold valV
 have HL:Hid (LoopL w (w1.alloc (.cells #[.pointer a] 199)) rb T b 199 1 shV p sp (ts.length+1) 1 (.slice (some ⟨w1.heap.size,0,none⟩) 1 1) ([]++shV it (.pointer a))):=by
  have hz1:=HK1.out.size
  refine loopL_next (w1:=w1) HS.out (HK1.out.alloc _) (fun ts d b h=>h.alloc _) (fun t v h=>h.keeps ((Keeps.refl _ _).alloc _)) (show ItAt w1 rb shV [] [] from rfl) ?_ (own_new w1 _ 1 1 [.pointer a] _ (by omega) (by decide) rfl) HP1.out HSP.out
  simpa using hlen
 clear HP1
 go_wp2_with fail
 go_loopg [5] (ts.length+1) (fun g x wr=>∃ n cs,Hid (LoopL w wr rb T b 199 1 shV p sp g n x cs))
 case atStart=>exact ⟨1,_,HL⟩
 case round =>
  obtain ⟨n,cs,HI⟩:=hrel
  clear HL
  obtain ⟨hkw,hown,hi⟩:=HI.out
  have HK:=Z hkw
  have hsz:=hkw.size
  obtain ⟨va,vn,vc,rfl⟩:=own_slice hown
  rcases hi with ⟨its,r,rfl,hg,hb,hit,hr,hm⟩|⟨hg,hn,hr,hm⟩
  ·have HIT:=Z hit
   have HM:=Z hm
   have HT:=Z (takeC 9 (by decide) rb T r 0 b wr hr)
   have hzr:=hr.lt
   by_cases h9:(Pl.hd r).k=9
   ·have hxx:=nxn h9
    rw [hxx,(nx_yes (b:=b) hxx).2.2.2] at HT
    have HM2:Hid (Pl.more p (r.tail.length+1) its r.tail=sp):=by unfold Hid;rw [<- HM.out,if_pos h9]
    have hrl:=Pl.hd_tail_lt (by decide) h9
    have HO:=Z hown
    clear hkw hown HI hit hm hr hxx h9
    go_wp2_with fail
    refine (U HT).mono ?_
    rintro e w2 ⟨rfl,hr2,hk2⟩
    have HR2:=Z hr2
    have HK2:=Z (HK.out.trans hk2)
    have HIT2:=Z (HIT.out.mono (fun t v=>CTree.keeps hk2))
    have HO2:=Z (own_keeps hk2 hz HO.out)
    clear hr2 hk2 HT
    go_wp2_with fail
    refine (U HPt rb T r.tail b w2 HR2.out).mono ?_
    rintro e w3 ⟨hk3,it3,a3,rfl,hp3⟩
    have HK3:=Z (HK2.out.trans hk3)
    have HIT3:=Z (HIT2.out.mono (fun t v=>CTree.keeps hk3))
    have hown3:=own_keeps hk3 hz HO2.out
    have HP3:=Z hp3
    have hsz3:=HK3.out.size
    clear hk3 hp3
    unfold valV
    go_wp2_with (at_builtin;refine wpList_append_own _ rfl (.tmp 11) (.tmp 14) 192 rfl w.heap.size 199 i0 _ 1 8 Tryz.underlying192 hi hz0 hz1 hz2 rfl (by decide) _ _ _ rfl (hown3.alloc _) ⟨w3.heap.size,0,none⟩ 1 1 [.pointer a3] rfl rfl ?c1 ?c2 ?c3 ?c4 ?c5 ?_)
    case c1=>exact news_at w3 [.pointer a3] 199
    case c2=>intro u hu;simp at hu;subst hu;rfl
    case c3=>unfold maxLen;omega
    case c4=>omega
    case c5=>simp;omega
    intro v' w4 hown4 hg4 hnil
    obtain ⟨hk4,hrt4,hct4⟩:=pushC (T:=T) (C:=[.pointer a3]) (by decide) hz HK3.out hown3 hg4
    have HL4:=Z (loopL_next (w1:=w3) (sh:=shV) (it:=it3) (a:=a3) HS.out hk4 hrt4 hct4 HIT3.out (by omega) hown4 HP3.out HM2.out)
    clear hown3 hown4 hg4 hnil hk4 hrt4 hct4
    go_wp2_with fail
    go_roundg (r.tail.length+1)
    case measure=>omega
    case rel=>exact ⟨_,_,HL4⟩
   ·have hxx:=nxf h9
    rw [hxx,(nx_no (b:=b) hxx).2.2.2] at HT
    have HE:Hid (sp=some (its,r)):=by unfold Hid;rw [<- HM.out,if_neg h9]
    have HO:=Z hown
    clear hkw hown HI hit hm hr hxx h9
    go_wp2_with fail
    refine (U HT).mono ?_
    rintro e w2 ⟨rfl,hr2,hk2⟩
    have HR2:=Z hr2
    have HK2:=Z (HK.out.trans hk2)
    have HIT2:=Z (HIT.out.mono (fun t v=>CTree.keeps hk2))
    have HO2:=Z (own_keeps hk2 hz HO.out)
    clear hr2 hk2 HT
    go_wp2_with fail
    go_ret
    exact ⟨HK2.out,va,vn,vc,rfl,by rw [HE.out];exact ⟨⟨cs,HO2.out,HIT2.out⟩,HR2.out⟩⟩
  ·have HT:=Z (takeC 9 (by decide) rb T [] 0 true wr hr)
   rw [show hk ([]:List Pl.Tok) 9=false from rfl,show tl [] 9=[] from rfl] at HT
   have HE:=Z hm
   clear hkw hown HI hr hm
   go_wp2_with fail
   refine (U HT).mono ?_
   rintro e w2 ⟨rfl,hr2,hk2⟩
   have HR2:=Z hr2
   have HK2:=Z (HK.out.trans hk2)
   clear hr2 hk2 HT
   go_wp2_with fail
   go_ret
   exact ⟨HK2.out,va,vn,vc,rfl,by rw [HE.out];exact HR2.out⟩
def tyR (ts:List Pl.Tok):Option (List Pl.Tok):=match Pl.typeOf (Pl.hd ts).k with
 | some _=>some ts.tail
 | none=>none
def tyN (ts:List Pl.Tok):Int:=(Pl.typeOf (Pl.hd ts).k).getD 0
theorem columnTypeC (rb:Nat)(T ts:List Pl.Tok)(d:Nat)(b:Bool)(w:World)(hR:RC w rb T ts d b) :
 Calls Tryz.prog 209 #[.pointer (some ⟨rb,0,none⟩)] w fun e w'=>e=.returned (.int .i64 (tyN ts))/\RCo w' rb T (tyR ts) d b/\Keeps rb w w':=by
 have HRR0:=Z hR
 have HKK0:=Z (Keeps.refl rb w)
 clear hR
 by_cases h48:(Pl.hd ts).k=48
 ·have HV:Hid (tyN ts=1/\tyR ts=some ts.tail):=by unfold Hid tyN tyR;rw [h48];exact ⟨rfl,rfl⟩
  have hx48:=nxn h48
  go_enter Tryz.func209,Tryz.ntmps209
  have HT0:=Z (takeC 48 (by decide) rb T ts d b w HRR0.out)
  rw [hx48,(nx_yes (b:=b) hx48).2.2.2] at HT0
  go_wp2_with fail
  refine (U HT0).mono ?_
  rintro e w1 ⟨rfl,hrr,hkk⟩
  have HRR1:=Z hrr
  have HKK1:=Z (HKK0.out.trans hkk)
  clear hrr hkk HT0
  go_wp2_with fail
  go_ret
  exact ⟨ret_int HV.out.1.symm,by rw [HV.out.2];exact HRR1.out,HKK1.out⟩
 by_cases h49:(Pl.hd ts).k=49
 ·have HV:Hid (tyN ts=2/\tyR ts=some ts.tail):=by unfold Hid tyN tyR;rw [h49];exact ⟨rfl,rfl⟩
  have hx48:=nxf h48
  have hx49:=nxn h49
  go_enter Tryz.func209,Tryz.ntmps209
  have HT0:=Z (takeC 48 (by decide) rb T ts d b w HRR0.out)
  rw [hx48,(nx_no (b:=b) hx48).2.2.2] at HT0
  go_wp2_with fail
  refine (U HT0).mono ?_
  rintro e w1 ⟨rfl,hrr,hkk⟩
  have HRR1:=Z hrr
  have HKK1:=Z (HKK0.out.trans hkk)
  clear hrr hkk HT0
  have HT1:=Z (takeC 49 (by decide) rb T ts d b w1 HRR1.out)
  rw [hx49,(nx_yes (b:=b) hx49).2.2.2] at HT1
  go_wp2_with fail
  refine (U HT1).mono ?_
  rintro e w2 ⟨rfl,hrr,hkk⟩
  have HRR2:=Z hrr
  have HKK2:=Z (HKK1.out.trans hkk)
  clear hrr hkk HT1
  go_wp2_with fail
  go_ret
  exact ⟨ret_int HV.out.1.symm,by rw [HV.out.2];exact HRR2.out,HKK2.out⟩
 by_cases h50:(Pl.hd ts).k=50
 ·have HV:Hid (tyN ts=3/\tyR ts=some ts.tail):=by unfold Hid tyN tyR;rw [h50];exact ⟨rfl,rfl⟩
  have hx48:=nxf h48
  have hx49:=nxf h49
  have hx50:=nxn h50
  go_enter Tryz.func209,Tryz.ntmps209
  have HT0:=Z (takeC 48 (by decide) rb T ts d b w HRR0.out)
  rw [hx48,(nx_no (b:=b) hx48).2.2.2] at HT0
  go_wp2_with fail
  refine (U HT0).mono ?_
  rintro e w1 ⟨rfl,hrr,hkk⟩
  have HRR1:=Z hrr
  have HKK1:=Z (HKK0.out.trans hkk)
  clear hrr hkk HT0
  have HT1:=Z (takeC 49 (by decide) rb T ts d b w1 HRR1.out)
  rw [hx49,(nx_no (b:=b) hx49).2.2.2] at HT1
  go_wp2_with fail
  refine (U HT1).mono ?_
  rintro e w2 ⟨rfl,hrr,hkk⟩
  have HRR2:=Z hrr
  have HKK2:=Z (HKK1.out.trans hkk)
  clear hrr hkk HT1
  have HT2:=Z (takeC 50 (by decide) rb T ts d b w2 HRR2.out)
  rw [hx50,(nx_yes (b:=b) hx50).2.2.2] at HT2
  go_wp2_with fail
  refine (U HT2).mono ?_
  rintro e w3 ⟨rfl,hrr,hkk⟩
  have HRR3:=Z hrr
  have HKK3:=Z (HKK2.out.trans hkk)
  clear hrr hkk HT2
  go_wp2_with fail
  go_ret
  exact ⟨ret_int HV.out.1.symm,by rw [HV.out.2];exact HRR3.out,HKK3.out⟩
 ·have HV:Hid (tyN ts=0/\tyR ts=none):=by
   have e:Pl.typeOf (Pl.hd ts).k=none:=by unfold Pl.typeOf;rw [if_neg h48,if_neg h49,if_neg h50]
   unfold Hid tyN tyR;rw [e];exact ⟨rfl,rfl⟩
  have hx48:=nxf h48
  have hx49:=nxf h49
  have hx50:=nxf h50
  go_enter Tryz.func209,Tryz.ntmps209
  have HT0:=Z (takeC 48 (by decide) rb T ts d b w HRR0.out)
  rw [hx48,(nx_no (b:=b) hx48).2.2.2] at HT0
  go_wp2_with fail
  refine (U HT0).mono ?_
  rintro e w1 ⟨rfl,hrr,hkk⟩
  have HRR1:=Z hrr
  have HKK1:=Z (HKK0.out.trans hkk)
  clear hrr hkk HT0
  have HT1:=Z (takeC 49 (by decide) rb T ts d b w1 HRR1.out)
  rw [hx49,(nx_no (b:=b) hx49).2.2.2] at HT1
  go_wp2_with fail
  refine (U HT1).mono ?_
  rintro e w2 ⟨rfl,hrr,hkk⟩
  have HRR2:=Z hrr
  have HKK2:=Z (HKK1.out.trans hkk)
  clear hrr hkk HT1
  have HT2:=Z (takeC 50 (by decide) rb T ts d b w2 HRR2.out)
  rw [hx50,(nx_no (b:=b) hx50).2.2.2] at HT2
  go_wp2_with fail
  refine (U HT2).mono ?_
  rintro e w3 ⟨rfl,hrr,hkk⟩
  have HRR3:=Z hrr
  have HKK3:=Z (HKK2.out.trans hkk)
  clear hrr hkk HT2
  go_wp2_with fail
  refine (failC rb T ts d b _ HRR3.out).mono ?_
  rintro e w5 ⟨rfl,hr5,hk5⟩
  go_wp2_with fail
  go_ret
  exact ⟨ret_int HV.out.1.symm,by rw [HV.out.2];exact hr5,HKK3.out.trans hk5⟩
def valC (it:Pl.It)(_:Value):Value:=.agg #[.string ⟨it.name.toArray⟩,.int .i64 it.type]
def shC (it:Pl.It)(_:Value):List Value:=[.string ⟨it.name.toArray⟩,.int .i64 it.type]
def valS (it:Pl.It)(v:Value):Value:=.agg #[.string ⟨it.name.toArray⟩,v]
def shS (it:Pl.It)(v:Value):List Value:=[.string ⟨it.name.toArray⟩,v]
def valO (it:Pl.It)(v:Value):Value:=.agg #[v,.bool it.mark]
def shO (it:Pl.It)(v:Value):List Value:=[v,.bool it.mark]
theorem CTree.setOther {w:World}{rb k:Nat}{C:Array Value}{e:TypeId}(hk:w.heap[k]?=some (.cells C e))(he:e≠269)(o:Nat)(x:Value):∀ {t:Pl.T}{v:Value},CTree w rb t v->CTree (w.setCell ⟨k,o,none⟩ x) rb t v
 | .nil,_,h=>h
 | .node _ _ a l r,v,⟨n,vl,vr,hv,hn,hb,hl,hr⟩=>⟨n,vl,vr,hv,hn,blk_set_ne hb (fun e1=>by
  subst e1
  rw [hb] at hk
  injection hk with hk
  injection hk with _ hk _
  exact he hk.symm) _ _,CTree.setOther hk he o x hl,CTree.setOther hk he o x hr⟩
theorem box2 {w w':World}{rb:Nat}{T:List Pl.Tok}{C:Array Value}{e:TypeId}(hz:rb<w.heap.size)(hk:Keeps rb w w')(hbx:w'.heap[w.heap.size]?=some (.cells C e))(he:e≠269)(x y:Value) :
 Keeps rb w ((w'.setCell ⟨w.heap.size,0,none⟩ x).setCell ⟨w.heap.size,1,none⟩ y)/\(∀ ts d b,RC w' rb T ts d b->RC ((w'.setCell ⟨w.heap.size,0,none⟩ x).setCell ⟨w.heap.size,1,none⟩ y) rb T ts d b)/\(∀ t v,CTree w' rb t v->CTree ((w'.setCell ⟨w.heap.size,0,none⟩ x).setCell ⟨w.heap.size,1,none⟩ y) rb t v):=by
 refine ⟨(hk.setNew (Nat.le_refl _) _).setNew (Nat.le_refl _) _,fun ts d b h=>(h.setNew hz _ _).setNew hz _ _,fun t v h=>?_⟩
 exact (h.setOther hbx he 0 x).setOther (bS hbx 0 x) he 1 y
theorem RC0 {w:World}{rb:Nat}{T ts:List Pl.Tok}{d:Nat}(h:RC w rb T ts d true):ts=[]:=by
 obtain ⟨v,p,_,_,_,h4,_⟩:=h;exact h4 rfl
theorem oneC:CO valC 152 Pl.iField:=by
 intro rb T ts b w hR
 have HN:=Z (nameC rb T ts 0 b _ (hR.alloc (.cells #[.string { data:=#[] },.int .i64 0] 97)))
 have hz:=hR.lt
 clear hR
 go_enter Tryz.func152,Tryz.ntmps152
 go_wp2_with fail
 refine (U HN).mono ?_
 rintro e w1 ⟨rfl,hr1,hk1⟩
 have HC:=Z (columnTypeC rb T (nx ts 1) 0 (bx ts 1 b) w1 hr1)
 have HK1:=Z hk1
 clear hr1 hk1 HN
 go_wp2_with fail
 refine (U HC).mono ?_
 rintro e w2 ⟨rfl,hr2,hk2⟩
 have hk12:=HK1.out.trans hk2
 have hbx:=hk12.blk (by omega) (blk_new w (.cells #[.string { data:=#[] },.int .i64 0] 97))
 have b0:=bC hbx 0
 have b1:=bC hbx 1
 have bf:=bF hbx
 have hzb:=lB hbx
 simp at b0 b1
 have HBX:=Z (box2 (T:=T) hz (((Keeps.refl rb w).alloc (.cells #[.string { data:=#[] },.int .i64 0] 97)).trans hk12) hbx (by decide))
 have HR2:=Z hr2
 clear hr2 hk2 hk12 hbx
 go_wp2_with fail
 refine bodyPost_ret (v:=.agg #[.string ⟨(tokR ts 1).s.toArray⟩,.int .i64 (tyN (nx ts 1))]) ?_ rfl ?_
 ·simp [results,Tryz.results152,go_sem,b0,b1]
 ·obtain ⟨h1,h2,h3⟩:=HBX.out (.string ⟨(tokR ts 1).s.toArray⟩) (.int .i64 (tyN (nx ts 1)))
  refine ⟨h1,⟨(tokR ts 1).s,[],tyN (nx ts 1),.nil,false⟩,none,rfl,?_⟩
  have hr:=HR2.out
  generalize hW:(w2.setCell ⟨w.heap.size,0,none⟩ (.string ⟨(tokR ts 1).s.toArray⟩)).setCell ⟨w.heap.size,1,none⟩ (.int .i64 (tyN (nx ts 1)))=W at *
  clear hW
  by_cases hn:(Pl.hd ts).k=1
  ·obtain ⟨e1,e2,e3,_⟩:=nx_yes (b:=b) (nxn hn)
   rw [e1,e2] at hr
   rw [e1,e3]
   unfold Pl.iField
   rw [if_pos hn]
   unfold tyR at hr
   unfold tyN
   cases ht:Pl.typeOf (Pl.hd ts.tail).k with
   | none=>rw [ht] at hr;exact h2 _ _ _ hr
   | some ty=>rw [ht] at hr;exact ⟨rfl,rfl,h2 _ _ _ hr⟩
  ·obtain ⟨e1,e2,e3,_⟩:=nx_no (b:=b) (nxf hn)
   rw [e1,e2] at hr
   unfold Pl.iField
   rw [if_neg hn]
   exact h2 _ _ _ hr
theorem oneS:CO valS 157 Pl.iSet:=by
 intro rb T ts b w hR
 have HN:=Z (nameC rb T ts 0 b _ (hR.alloc (.cells #[.string { data:=#[] },.pointer none] 259)))
 have hz:=hR.lt
 clear hR
 go_enter Tryz.func157,Tryz.ntmps157
 go_wp2_with fail
 refine (U HN).mono ?_
 rintro e w1 ⟨rfl,hr1,hk1⟩
 have hz1:=hr1.lt
 have HE:=Z (needC [12] 1 rfl (by decide) (by decide) w1.heap.size 1 rb T (nx ts 1) 0 (bx ts 1 b) _ (hr1.alloc (.cells #[.int .i64 12] 129)) (kinds_new w1 [12] _ _ rfl) (by omega))
 have HK1:=Z hk1
 clear hr1 hk1 HN
 go_wp2_with fail
 refine (U HE).mono ?_
 rintro e w2 ⟨rfl,hr2,hk2⟩
 have HK2:=Z ((HK1.out.alloc (.cells #[.int .i64 12] 129)).trans hk2)
 have HS:Hid (∃ ts2 b2,RC w2 rb T ts2 0 b2/\((b2=b/\(Pl.hd ts).k=1/\(Pl.hd ts.tail).k=12/\ts2=ts.tail.tail)\/(b2=true/\ts2=[]/\Pl.iSet ts=none))):=by
  rw [needs1] at hr2
  by_cases hn:(Pl.hd ts).k=1
  ·obtain ⟨e1,e2,e3,_⟩:=nx_yes (b:=b) (nxn hn)
   rw [e1,e2] at hr2
   by_cases h12:(Pl.hd ts.tail).k=12
   ·rw [if_pos h12] at hr2
    exact ⟨_,b,hr2,.inl ⟨rfl,hn,h12,rfl⟩⟩
   ·rw [if_neg h12] at hr2
    exact ⟨[],true,hr2,.inr ⟨rfl,rfl,by unfold Pl.iSet;rw [if_pos hn,if_neg h12]⟩⟩
  ·obtain ⟨e1,e2,e3,_⟩:=nx_no (b:=b) (nxf hn)
   rw [e1,e2,if_neg (by decide)] at hr2
   exact ⟨[],true,hr2,.inr ⟨rfl,rfl,by unfold Pl.iSet;rw [if_neg hn]⟩⟩
 obtain ⟨ts2,b2,hrc,hcase⟩:=HS.out
 have HCS:=Z hcase
 have HV:=Z (codeValue rb T ts2 b2 w2 hrc)
 clear hr2 hk2 HE HS hrc hcase
 go_wp2_with fail
 refine (U HV).mono ?_
 rintro e w3 ⟨hk3,a,rfl,hp3⟩
 have hk13:=HK2.out.trans hk3
 have hbx:=hk13.blk (by omega) (blk_new w (.cells #[.string { data:=#[] },.pointer none] 259))
 have b0:=bC hbx 0
 have b1:=bC hbx 1
 have bf:=bF hbx
 have hzb:=lB hbx
 simp at b0 b1
 have HBX:=Z (box2 (T:=T) hz (((Keeps.refl rb w).alloc (.cells #[.string { data:=#[] },.pointer none] 259)).trans hk13) hbx (by decide))
 have HP3:=Z hp3
 clear hp3 hk3 hk13 hbx
 go_wp2_with fail
 refine bodyPost_ret (v:=.agg #[.string ⟨(tokR ts 1).s.toArray⟩,.pointer a]) ?_ rfl ?_
 ·simp [results,Tryz.results157,go_sem,b0,b1]
 ·obtain ⟨h1,h2,h3⟩:=HBX.out (.string ⟨(tokR ts 1).s.toArray⟩) (.pointer a)
  have hp:=HP3.out
  generalize hW:(w3.setCell ⟨w.heap.size,0,none⟩ (.string ⟨(tokR ts 1).s.toArray⟩)).setCell ⟨w.heap.size,1,none⟩ (.pointer a)=W at *
  clear hW
  rcases HCS.out with ⟨rfl,hn,h12,rfl⟩|⟨rfl,rfl,hno⟩
  ·obtain ⟨e1,e2,e3,_⟩:=nx_yes (b:=b2) (nxn hn)
   rw [e3]
   unfold Pl.iSet
   rw [if_pos hn,if_pos h12]
   cases hv:Pl.pVal 20 ts.tail.tail with
   | none=>rw [hv] at hp;exact ⟨h1,⟨(Pl.hd ts).s,[],0,.nil,false⟩,a,rfl,h2 _ _ _ hp⟩
   | some y =>
    obtain ⟨x,r⟩:=y
    rw [hv] at hp
    exact ⟨h1,⟨(Pl.hd ts).s,[],0,x,false⟩,a,rfl,rfl,h3 _ _ hp.1,h2 _ _ _ hp.2⟩
  ·rw [hno]
   refine ⟨h1,⟨(tokR ts 1).s,[],0,.nil,false⟩,a,rfl,?_⟩
   have hnil:RC w3 rb T [] 0 true:=by
    cases hv:Pl.pVal 20 [] with
    | none=>rw [hv] at hp;exact hp
    | some y =>
     rw [hv] at hp
     have:=RC0 hp.2
     have h4:=hp.2
     rw [this] at h4;exact h4
   exact h2 _ _ _ hnil
theorem oneO:CO valO 214 Pl.iKey:=by
 intro rb T ts b w hR
 have HN:=Z (codeValue rb T ts b _ (hR.alloc (.cells #[.pointer none,.bool false] 328)))
 have hz:=hR.lt
 clear hR
 go_enter Tryz.func214,Tryz.ntmps214
 go_wp2_with fail
 refine (U HN).mono ?_
 rintro e w1 ⟨hk1,a,rfl,hp1⟩
 have HK1:=Z hk1
 have HS:Hid (∃ ts2 b2,RC w1 rb T ts2 0 b2/\((b2=b/\∃ x,Pl.pVal 20 ts=some (x,ts2)/\CTree w1 rb x (.pointer a))\/(b2=true/\ts2=[]/\Pl.pVal 20 ts=none))):=by
  cases hv:Pl.pVal 20 ts with
  | none=>rw [hv] at hp1;exact ⟨[],true,hp1,.inr ⟨rfl,rfl,rfl⟩⟩
  | some y =>
   obtain ⟨x,r⟩:=y
   rw [hv] at hp1
   exact ⟨r,b,hp1.2,.inl ⟨rfl,x,rfl,hp1.1⟩⟩
 obtain ⟨ts2,b2,hrc,hcase⟩:=HS.out
 have HCS:=Z hcase
 have HT:=Z (takeC 38 (by decide) rb T ts2 0 b2 w1 hrc)
 clear hp1 hk1 HS hrc hcase HN
 go_wp2_with fail
 refine (U HT).mono ?_
 rintro e w2 ⟨rfl,hr2,hk2⟩
 have hk12:=HK1.out.trans hk2
 have hbx:=hk12.blk (by omega) (blk_new w (.cells #[.pointer none,.bool false] 328))
 have b0:=bC hbx 0
 have b1:=bC hbx 1
 have bf:=bF hbx
 have hzb:=lB hbx
 simp at b0 b1
 have HBX:=Z (box2 (T:=T) hz (((Keeps.refl rb w).alloc (.cells #[.pointer none,.bool false] 328)).trans hk12) hbx (by decide))
 have HR2:=Z hr2
 have HK2:=Z hk2
 clear hr2 hk2 hk12 hbx HT
 go_wp2_with fail
 refine bodyPost_ret (v:=.agg #[.pointer a,.bool (hk ts2 38)]) ?_ rfl ?_
 ·simp [results,Tryz.results214,go_sem,b0,b1]
 ·obtain ⟨h1,h2,h3⟩:=HBX.out (.pointer a) (.bool (hk ts2 38))
  have hr:=HR2.out
  generalize hW:(w2.setCell ⟨w.heap.size,0,none⟩ (.pointer a)).setCell ⟨w.heap.size,1,none⟩ (.bool (hk ts2 38))=W at *
  clear hW
  unfold Pl.iKey
  rcases HCS.out with ⟨rfl,x,hx,hct⟩|⟨rfl,rfl,hno⟩
  ·rw [hx]
   simp only
   have hct2:=h3 _ _ (hct.keeps HK2.out)
   by_cases h38:(Pl.hd ts2).k=38
   ·have hxx:=nxn h38
    rw [(nx_yes (b:=b2) hxx).2.2.2] at hr
    rw [hxx,if_pos h38]
    exact ⟨h1,⟨[],[],0,x,true⟩,a,rfl,rfl,hct2,h2 _ _ _ hr⟩
   ·have hxx:=nxf h38
    rw [(nx_no (b:=b2) hxx).2.2.2] at hr
    rw [hxx,if_neg h38]
    exact ⟨h1,⟨[],[],0,x,false⟩,a,rfl,rfl,hct2,h2 _ _ _ hr⟩
  ·rw [hno]
   exact ⟨h1,⟨[],[],0,.nil,false⟩,a,rfl,h2 _ _ _ hr⟩
theorem Tryz.infoColumn:(Tryz.prog.info? 97).map (fun i=>(i.zero,i.size,i.bytes))=some (some (.agg #[.string { data:=#[] },.int .i64 0]),2,24):=by kernel_rfl
theorem Tryz.infoSetting:(Tryz.prog.info? 259).map (fun i=>(i.zero,i.size,i.bytes))=some (some (.agg #[.string { data:=#[] },.pointer none]),2,24):=by kernel_rfl
theorem Tryz.infoOrder:(Tryz.prog.info? 328).map (fun i=>(i.zero,i.size,i.bytes))=some (some (.agg #[.pointer none,.bool false]),2,16):=by kernel_rfl
theorem listC (f:FuncId)(hef:Ent f)(p:Pl.PI)(hs:Pl.ShrI p)(HP:CO valC f p)(rb:Nat)(T ts:List Pl.Tok)(b:Bool)(w:World)(hR:RC w rb T ts 0 b) :
 Calls Tryz.prog 151 #[.pointer (some ⟨rb,0,none⟩),.func (.func f) #[.pointer (some ⟨rb,0,none⟩)] #[]] w (PostL 97 2 shC w rb T 0 b (Pl.listed p ts)):=by
 have hef':∀ (a:Array Value) (w:World),(callFunc f a).run Tryz.prog w=.ok (.enter f a) w:=hef
 obtain ⟨i0,hi,hz0,hz1,hz2⟩:=info_parts Tryz.infoColumn
 have HPt:=Z HP
 have HR:=Z hR
 have HS:=Z hs
 have hz:=hR.lt
 have hlen:=hR.len
 clear HP hR hs hef
 generalize hsp:Pl.listed p ts=sp
 have HSP:=Z hsp
 clear hsp
 go_enter Tryz.func151,Tryz.ntmps151
 go_wp2_with fail
 refine (U HPt rb T ts b w HR.out).mono ?_
 rintro e w1 ⟨hk1,it,a,rfl,hp⟩
 have HK1:=Z hk1
 have HP1:=Z hp
 clear hk1 hp
 unfold valC
 have HL:Hid (LoopL w (w1.alloc (.cells #[.string ⟨it.name.toArray⟩,.int .i64 it.type] 97)) rb T b 97 2 shC p sp (ts.length+1) 1 (.slice (some ⟨w1.heap.size,0,none⟩) 1 1) ([]++shC it (.pointer a))):=by
  have hz1:=HK1.out.size
  refine loopL_next (w1:=w1) HS.out (HK1.out.alloc _) (fun ts d b h=>h.alloc _) (fun t v h=>h.keeps ((Keeps.refl _ _).alloc _)) (show ItAt w1 rb shC [] [] from rfl) ?_ (own_new w1 _ 1 2 [.string ⟨it.name.toArray⟩,.int .i64 it.type] _ (by omega) (by decide) rfl) HP1.out HSP.out
  simpa using hlen
 clear HP1
 go_wp2_with fail
 go_loopg [5] (ts.length+1) (fun g x wr=>∃ n cs,Hid (LoopL w wr rb T b 97 2 shC p sp g n x cs))
 case atStart=>exact ⟨1,_,HL⟩
 case round =>
  obtain ⟨n,cs,HI⟩:=hrel
  clear HL
  obtain ⟨hkw,hown,hi⟩:=HI.out
  have HK:=Z hkw
  have hsz:=hkw.size
  obtain ⟨va,vn,vc,rfl⟩:=own_slice hown
  rcases hi with ⟨its,r,rfl,hg,hb,hit,hr,hm⟩|⟨hg,hn,hr,hm⟩
  ·have HIT:=Z hit
   have HM:=Z hm
   have HT:=Z (takeC 9 (by decide) rb T r 0 b wr hr)
   have hzr:=hr.lt
   by_cases h9:(Pl.hd r).k=9
   ·have hxx:=nxn h9
    rw [hxx,(nx_yes (b:=b) hxx).2.2.2] at HT
    have HM2:Hid (Pl.more p (r.tail.length+1) its r.tail=sp):=by unfold Hid;rw [<- HM.out,if_pos h9]
    have hrl:=Pl.hd_tail_lt (by decide) h9
    have HO:=Z hown
    clear hkw hown HI hit hm hr hxx h9
    go_wp2_with fail
    refine (U HT).mono ?_
    rintro e w2 ⟨rfl,hr2,hk2⟩
    have HR2:=Z hr2
    have HK2:=Z (HK.out.trans hk2)
    have HIT2:=Z (HIT.out.mono (fun t v=>CTree.keeps hk2))
    have HO2:=Z (own_keeps hk2 hz HO.out)
    clear hr2 hk2 HT
    go_wp2_with fail
    refine (U HPt rb T r.tail b w2 HR2.out).mono ?_
    rintro e w3 ⟨hk3,it3,a3,rfl,hp3⟩
    have HK3:=Z (HK2.out.trans hk3)
    have HIT3:=Z (HIT2.out.mono (fun t v=>CTree.keeps hk3))
    have hown3:=own_keeps hk3 hz HO2.out
    have HP3:=Z hp3
    have hsz3:=HK3.out.size
    clear hk3 hp3
    unfold valC
    go_wp2_with (at_builtin;refine wpList_append_own _ rfl (.tmp 11) (.tmp 14) 92 rfl w.heap.size 97 i0 _ 2 24 Tryz.underlying92 hi hz0 hz1 hz2 rfl (by decide) _ _ _ rfl (hown3.alloc _) ⟨w3.heap.size,0,none⟩ 1 1 [.string ⟨it3.name.toArray⟩,.int .i64 it3.type] rfl rfl ?c1 ?c2 ?c3 ?c4 ?c5 ?_)
    case c1=>exact news_at w3 [.string ⟨it3.name.toArray⟩,.int .i64 it3.type] 97
    case c2=>intro u hu;simp at hu;rcases hu with rfl|rfl <;> rfl
    case c3=>unfold maxLen;omega
    case c4=>omega
    case c5=>simp;omega
    intro v' w4 hown4 hg4 hnil
    obtain ⟨hk4,hrt4,hct4⟩:=pushC (T:=T) (C:=[.string ⟨it3.name.toArray⟩,.int .i64 it3.type]) (by decide) hz HK3.out hown3 hg4
    have HL4:=Z (loopL_next (w1:=w3) (sh:=shC) (it:=it3) (a:=a3) HS.out hk4 hrt4 hct4 HIT3.out (by omega) hown4 HP3.out HM2.out)
    clear hown3 hown4 hg4 hnil hk4 hrt4 hct4
    go_wp2_with fail
    go_roundg (r.tail.length+1)
    case measure=>omega
    case rel=>exact ⟨_,_,HL4⟩
   ·have hxx:=nxf h9
    rw [hxx,(nx_no (b:=b) hxx).2.2.2] at HT
    have HE:Hid (sp=some (its,r)):=by unfold Hid;rw [<- HM.out,if_neg h9]
    have HO:=Z hown
    clear hkw hown HI hit hm hr hxx h9
    go_wp2_with fail
    refine (U HT).mono ?_
    rintro e w2 ⟨rfl,hr2,hk2⟩
    have HR2:=Z hr2
    have HK2:=Z (HK.out.trans hk2)
    have HIT2:=Z (HIT.out.mono (fun t v=>CTree.keeps hk2))
    have HO2:=Z (own_keeps hk2 hz HO.out)
    clear hr2 hk2 HT
    go_wp2_with fail
    go_ret
    exact ⟨HK2.out,va,vn,vc,rfl,by rw [HE.out];exact ⟨⟨cs,HO2.out,HIT2.out⟩,HR2.out⟩⟩
  ·have HT:=Z (takeC 9 (by decide) rb T [] 0 true wr hr)
   rw [show hk ([]:List Pl.Tok) 9=false from rfl,show tl [] 9=[] from rfl] at HT
   have HE:=Z hm
   clear hkw hown HI hr hm
   go_wp2_with fail
   refine (U HT).mono ?_
   rintro e w2 ⟨rfl,hr2,hk2⟩
   have HR2:=Z hr2
   have HK2:=Z (HK.out.trans hk2)
   clear hr2 hk2 HT
   go_wp2_with fail
   go_ret
   exact ⟨HK2.out,va,vn,vc,rfl,by rw [HE.out];exact HR2.out⟩
theorem listS (f:FuncId)(hef:Ent f)(p:Pl.PI)(hs:Pl.ShrI p)(HP:CO valS f p)(rb:Nat)(T ts:List Pl.Tok)(b:Bool)(w:World)(hR:RC w rb T ts 0 b) :
 Calls Tryz.prog 156 #[.pointer (some ⟨rb,0,none⟩),.func (.func f) #[.pointer (some ⟨rb,0,none⟩)] #[]] w (PostL 259 2 shS w rb T 0 b (Pl.listed p ts)):=by
 have hef':∀ (a:Array Value) (w:World),(callFunc f a).run Tryz.prog w=.ok (.enter f a) w:=hef
 obtain ⟨i0,hi,hz0,hz1,hz2⟩:=info_parts Tryz.infoSetting
 have HPt:=Z HP
 have HR:=Z hR
 have HS:=Z hs
 have hz:=hR.lt
 have hlen:=hR.len
 clear HP hR hs hef
 generalize hsp:Pl.listed p ts=sp
 have HSP:=Z hsp
 clear hsp
 go_enter Tryz.func156,Tryz.ntmps156
 go_wp2_with fail
 refine (U HPt rb T ts b w HR.out).mono ?_
 rintro e w1 ⟨hk1,it,a,rfl,hp⟩
 have HK1:=Z hk1
 have HP1:=Z hp
 clear hk1 hp
 unfold valS
 have HL:Hid (LoopL w (w1.alloc (.cells #[.string ⟨it.name.toArray⟩,.pointer a] 259)) rb T b 259 2 shS p sp (ts.length+1) 1 (.slice (some ⟨w1.heap.size,0,none⟩) 1 1) ([]++shS it (.pointer a))):=by
  have hz1:=HK1.out.size
  refine loopL_next (w1:=w1) HS.out (HK1.out.alloc _) (fun ts d b h=>h.alloc _) (fun t v h=>h.keeps ((Keeps.refl _ _).alloc _)) (show ItAt w1 rb shS [] [] from rfl) ?_ (own_new w1 _ 1 2 [.string ⟨it.name.toArray⟩,.pointer a] _ (by omega) (by decide) rfl) HP1.out HSP.out
  simpa using hlen
 clear HP1
 go_wp2_with fail
 go_loopg [5] (ts.length+1) (fun g x wr=>∃ n cs,Hid (LoopL w wr rb T b 259 2 shS p sp g n x cs))
 case atStart=>exact ⟨1,_,HL⟩
 case round =>
  obtain ⟨n,cs,HI⟩:=hrel
  clear HL
  obtain ⟨hkw,hown,hi⟩:=HI.out
  have HK:=Z hkw
  have hsz:=hkw.size
  obtain ⟨va,vn,vc,rfl⟩:=own_slice hown
  rcases hi with ⟨its,r,rfl,hg,hb,hit,hr,hm⟩|⟨hg,hn,hr,hm⟩
  ·have HIT:=Z hit
   have HM:=Z hm
   have HT:=Z (takeC 9 (by decide) rb T r 0 b wr hr)
   have hzr:=hr.lt
   by_cases h9:(Pl.hd r).k=9
   ·have hxx:=nxn h9
    rw [hxx,(nx_yes (b:=b) hxx).2.2.2] at HT
    have HM2:Hid (Pl.more p (r.tail.length+1) its r.tail=sp):=by unfold Hid;rw [<- HM.out,if_pos h9]
    have hrl:=Pl.hd_tail_lt (by decide) h9
    have HO:=Z hown
    clear hkw hown HI hit hm hr hxx h9
    go_wp2_with fail
    refine (U HT).mono ?_
    rintro e w2 ⟨rfl,hr2,hk2⟩
    have HR2:=Z hr2
    have HK2:=Z (HK.out.trans hk2)
    have HIT2:=Z (HIT.out.mono (fun t v=>CTree.keeps hk2))
    have HO2:=Z (own_keeps hk2 hz HO.out)
    clear hr2 hk2 HT
    go_wp2_with fail
    refine (U HPt rb T r.tail b w2 HR2.out).mono ?_
    rintro e w3 ⟨hk3,it3,a3,rfl,hp3⟩
    have HK3:=Z (HK2.out.trans hk3)
    have HIT3:=Z (HIT2.out.mono (fun t v=>CTree.keeps hk3))
    have hown3:=own_keeps hk3 hz HO2.out
    have HP3:=Z hp3
    have hsz3:=HK3.out.size
    clear hk3 hp3
    unfold valS
    go_wp2_with (at_builtin;refine wpList_append_own _ rfl (.tmp 11) (.tmp 14) 211 rfl w.heap.size 259 i0 _ 2 24 Tryz.underlying211 hi hz0 hz1 hz2 rfl (by decide) _ _ _ rfl (hown3.alloc _) ⟨w3.heap.size,0,none⟩ 1 1 [.string ⟨it3.name.toArray⟩,.pointer a3] rfl rfl ?c1 ?c2 ?c3 ?c4 ?c5 ?_)
    case c1=>exact news_at w3 [.string ⟨it3.name.toArray⟩,.pointer a3] 259
    case c2=>intro u hu;simp at hu;rcases hu with rfl|rfl <;> rfl
    case c3=>unfold maxLen;omega
    case c4=>omega
    case c5=>simp;omega
    intro v' w4 hown4 hg4 hnil
    obtain ⟨hk4,hrt4,hct4⟩:=pushC (T:=T) (C:=[.string ⟨it3.name.toArray⟩,.pointer a3]) (by decide) hz HK3.out hown3 hg4
    have HL4:=Z (loopL_next (w1:=w3) (sh:=shS) (it:=it3) (a:=a3) HS.out hk4 hrt4 hct4 HIT3.out (by omega) hown4 HP3.out HM2.out)
    clear hown3 hown4 hg4 hnil hk4 hrt4 hct4
    go_wp2_with fail
    go_roundg (r.tail.length+1)
    case measure=>omega
    case rel=>exact ⟨_,_,HL4⟩
   ·have hxx:=nxf h9
    rw [hxx,(nx_no (b:=b) hxx).2.2.2] at HT
    have HE:Hid (sp=some (its,r)):=by unfold Hid;rw [<- HM.out,if_neg h9]
    have HO:=Z hown
    clear hkw hown HI hit hm hr hxx h9
    go_wp2_with fail
    refine (U HT).mono ?_
    rintro e w2 ⟨rfl,hr2,hk2⟩
    have HR2:=Z hr2
    have HK2:=Z (HK.out.trans hk2)
    have HIT2:=Z (HIT.out.mono (fun t v=>CTree.keeps hk2))
    have HO2:=Z (own_keeps hk2 hz HO.out)
    clear hr2 hk2 HT
    go_wp2_with fail
    go_ret
    exact ⟨HK2.out,va,vn,vc,rfl,by rw [HE.out];exact ⟨⟨cs,HO2.out,HIT2.out⟩,HR2.out⟩⟩
  ·have HT:=Z (takeC 9 (by decide) rb T [] 0 true wr hr)
   rw [show hk ([]:List Pl.Tok) 9=false from rfl,show tl [] 9=[] from rfl] at HT
   have HE:=Z hm
   clear hkw hown HI hr hm
   go_wp2_with fail
   refine (U HT).mono ?_
   rintro e w2 ⟨rfl,hr2,hk2⟩
   have HR2:=Z hr2
   have HK2:=Z (HK.out.trans hk2)
   clear hr2 hk2 HT
   go_wp2_with fail
   go_ret
   exact ⟨HK2.out,va,vn,vc,rfl,by rw [HE.out];exact HR2.out⟩
theorem listO (f:FuncId)(hef:Ent f)(p:Pl.PI)(hs:Pl.ShrI p)(HP:CO valO f p)(rb:Nat)(T ts:List Pl.Tok)(b:Bool)(w:World)(hR:RC w rb T ts 0 b) :
 Calls Tryz.prog 213 #[.pointer (some ⟨rb,0,none⟩),.func (.func f) #[.pointer (some ⟨rb,0,none⟩)] #[]] w (PostL 328 2 shO w rb T 0 b (Pl.listed p ts)):=by
 have hef':∀ (a:Array Value) (w:World),(callFunc f a).run Tryz.prog w=.ok (.enter f a) w:=hef
 obtain ⟨i0,hi,hz0,hz1,hz2⟩:=info_parts Tryz.infoOrder
 have HPt:=Z HP
 have HR:=Z hR
 have HS:=Z hs
 have hz:=hR.lt
 have hlen:=hR.len
 clear HP hR hs hef
 generalize hsp:Pl.listed p ts=sp
 have HSP:=Z hsp
 clear hsp
 go_enter Tryz.func213,Tryz.ntmps213
 go_wp2_with fail
 refine (U HPt rb T ts b w HR.out).mono ?_
 rintro e w1 ⟨hk1,it,a,rfl,hp⟩
 have HK1:=Z hk1
 have HP1:=Z hp
 clear hk1 hp
 unfold valO
 have HL:Hid (LoopL w (w1.alloc (.cells #[.pointer a,.bool it.mark] 328)) rb T b 328 2 shO p sp (ts.length+1) 1 (.slice (some ⟨w1.heap.size,0,none⟩) 1 1) ([]++shO it (.pointer a))):=by
  have hz1:=HK1.out.size
  refine loopL_next (w1:=w1) HS.out (HK1.out.alloc _) (fun ts d b h=>h.alloc _) (fun t v h=>h.keeps ((Keeps.refl _ _).alloc _)) (show ItAt w1 rb shO [] [] from rfl) ?_ (own_new w1 _ 1 2 [.pointer a,.bool it.mark] _ (by omega) (by decide) rfl) HP1.out HSP.out
  simpa using hlen
 clear HP1
 go_wp2_with fail
 go_loopg [5] (ts.length+1) (fun g x wr=>∃ n cs,Hid (LoopL w wr rb T b 328 2 shO p sp g n x cs))
 case atStart=>exact ⟨1,_,HL⟩
 case round =>
  obtain ⟨n,cs,HI⟩:=hrel
  clear HL
  obtain ⟨hkw,hown,hi⟩:=HI.out
  have HK:=Z hkw
  have hsz:=hkw.size
  obtain ⟨va,vn,vc,rfl⟩:=own_slice hown
  rcases hi with ⟨its,r,rfl,hg,hb,hit,hr,hm⟩|⟨hg,hn,hr,hm⟩
  ·have HIT:=Z hit
   have HM:=Z hm
   have HT:=Z (takeC 9 (by decide) rb T r 0 b wr hr)
   have hzr:=hr.lt
   by_cases h9:(Pl.hd r).k=9
   ·have hxx:=nxn h9
    rw [hxx,(nx_yes (b:=b) hxx).2.2.2] at HT
    have HM2:Hid (Pl.more p (r.tail.length+1) its r.tail=sp):=by unfold Hid;rw [<- HM.out,if_pos h9]
    have hrl:=Pl.hd_tail_lt (by decide) h9
    have HO:=Z hown
    clear hkw hown HI hit hm hr hxx h9
    go_wp2_with fail
    refine (U HT).mono ?_
    rintro e w2 ⟨rfl,hr2,hk2⟩
    have HR2:=Z hr2
    have HK2:=Z (HK.out.trans hk2)
    have HIT2:=Z (HIT.out.mono (fun t v=>CTree.keeps hk2))
    have HO2:=Z (own_keeps hk2 hz HO.out)
    clear hr2 hk2 HT
    go_wp2_with fail
    refine (U HPt rb T r.tail b w2 HR2.out).mono ?_
    rintro e w3 ⟨hk3,it3,a3,rfl,hp3⟩
    have HK3:=Z (HK2.out.trans hk3)
    have HIT3:=Z (HIT2.out.mono (fun t v=>CTree.keeps hk3))
    have hown3:=own_keeps hk3 hz HO2.out
    have HP3:=Z hp3
    have hsz3:=HK3.out.size
    clear hk3 hp3
    unfold valO
    go_wp2_with (at_builtin;refine wpList_append_own _ rfl (.tmp 11) (.tmp 14) 227 rfl w.heap.size 328 i0 _ 2 16 Tryz.underlying227 hi hz0 hz1 hz2 rfl (by decide) _ _ _ rfl (hown3.alloc _) ⟨w3.heap.size,0,none⟩ 1 1 [.pointer a3,.bool it3.mark] rfl rfl ?c1 ?c2 ?c3 ?c4 ?c5 ?_)
    case c1=>exact news_at w3 [.pointer a3,.bool it3.mark] 328
    case c2=>intro u hu;simp at hu;rcases hu with rfl|rfl <;> rfl
    case c3=>unfold maxLen;omega
    case c4=>omega
    case c5=>simp;omega
    intro v' w4 hown4 hg4 hnil
    obtain ⟨hk4,hrt4,hct4⟩:=pushC (T:=T) (C:=[.pointer a3,.bool it3.mark]) (by decide) hz HK3.out hown3 hg4
    have HL4:=Z (loopL_next (w1:=w3) (sh:=shO) (it:=it3) (a:=a3) HS.out hk4 hrt4 hct4 HIT3.out (by omega) hown4 HP3.out HM2.out)
    clear hown3 hown4 hg4 hnil hk4 hrt4 hct4
    go_wp2_with fail
    go_roundg (r.tail.length+1)
    case measure=>omega
    case rel=>exact ⟨_,_,HL4⟩
   ·have hxx:=nxf h9
    rw [hxx,(nx_no (b:=b) hxx).2.2.2] at HT
    have HE:Hid (sp=some (its,r)):=by unfold Hid;rw [<- HM.out,if_neg h9]
    have HO:=Z hown
    clear hkw hown HI hit hm hr hxx h9
    go_wp2_with fail
    refine (U HT).mono ?_
    rintro e w2 ⟨rfl,hr2,hk2⟩
    have HR2:=Z hr2
    have HK2:=Z (HK.out.trans hk2)
    have HIT2:=Z (HIT.out.mono (fun t v=>CTree.keeps hk2))
    have HO2:=Z (own_keeps hk2 hz HO.out)
    clear hr2 hk2 HT
    go_wp2_with fail
    go_ret
    exact ⟨HK2.out,va,vn,vc,rfl,by rw [HE.out];exact ⟨⟨cs,HO2.out,HIT2.out⟩,HR2.out⟩⟩
  ·have HT:=Z (takeC 9 (by decide) rb T [] 0 true wr hr)
   rw [show hk ([]:List Pl.Tok) 9=false from rfl,show tl [] 9=[] from rfl] at HT
   have HE:=Z hm
   clear hkw hown HI hr hm
   go_wp2_with fail
   refine (U HT).mono ?_
   rintro e w2 ⟨rfl,hr2,hk2⟩
   have HR2:=Z hr2
   have HK2:=Z (HK.out.trans hk2)
   clear hr2 hk2 HT
   go_wp2_with fail
   go_ret
   exact ⟨HK2.out,va,vn,vc,rfl,by rw [HE.out];exact HR2.out⟩
theorem whereC:CQ 155 0 Pl.pWhere:=by
 intro rb T ts b w hR
 have HT:=Z (takeC 27 (by decide) rb T ts 0 b w hR)
 clear hR
 by_cases h27:(Pl.hd ts).k=27
 ·have hx:=nxn h27
  rw [hx,(nx_yes (b:=b) hx).2.2.2] at HT
  have HV:Hid (Pl.pWhere ts=Pl.pVal 20 ts.tail):=by unfold Hid Pl.pWhere;rw [if_pos h27]
  go_enter Tryz.func155,Tryz.ntmps155
  go_wp2_with fail
  refine (U HT).mono ?_
  rintro e w1 ⟨rfl,hr1,hk1⟩
  have HC:=Z (codeValue rb T ts.tail b w1 hr1)
  have HK1:=Z hk1
  clear hr1 hk1 HT
  go_wp2_with fail
  refine (U HC).mono ?_
  rintro e w2 ⟨hk2,a,rfl,hp⟩
  go_wp2_with fail
  go_ret
  exact ⟨HK1.out.trans hk2,a,rfl,by rw [HV.out];exact hp⟩
 ·have hx:=nxf h27
  rw [hx,(nx_no (b:=b) hx).2.2.2] at HT
  have HV:Hid (Pl.pWhere ts=some (.nil,ts)):=by unfold Hid Pl.pWhere;rw [if_neg h27]
  go_enter Tryz.func155,Tryz.ntmps155
  go_wp2_with fail
  refine (U HT).mono ?_
  rintro e w1 ⟨rfl,hr1,hk1⟩
  go_wp2_with fail
  go_ret
  exact PostR.some_ HV.out hk1 rfl hr1
theorem PostL.wrong {e:TypeId}{size:Nat}{sh:Pl.It->Value->List Value}{w:World}{rb:Nat}{T:List Pl.Tok}{sp:Option (List Pl.It × List Pl.Tok)}{en:Ending}{w':World}(h:PostL e size sh w rb T 0 true sp en w'):PostL e size sh w rb T 0 true none en w':=by
 obtain ⟨hk,a,n,c,rfl,h⟩:=h
 refine ⟨hk,a,n,c,rfl,?_⟩
 cases sp with
 | none=>exact h
 | some y =>
  obtain ⟨its,r⟩:=y
  have h2:=h.2
  rw [RC0 h2] at h2
  exact h2
theorem PostL.base {e:TypeId}{size:Nat}{sh:Pl.It->Value->List Value}{w w1:World}{rb:Nat}{T:List Pl.Tok}{b:Bool}{sp:Option (List Pl.It × List Pl.Tok)}{en:Ending}{w':World}(hk1:Keeps rb w w1)(h:PostL e size sh w1 rb T 0 b sp en w'):PostL e size sh w rb T 0 b sp en w':=by
 obtain ⟨hk,a,n,c,rfl,h⟩:=h
 refine ⟨hk1.trans hk,a,n,c,rfl,?_⟩
 cases sp with
 | none=>exact h
 | some y =>
  obtain ⟨its,r⟩:=y
  obtain ⟨⟨cs,⟨h1,h2⟩,h3⟩,h4⟩:=h
  refine ⟨⟨cs,⟨h1,?_⟩,h3⟩,h4⟩
  rcases h2 with h2|⟨g,cap,cur,hv,hg,r⟩
  ·exact .inl h2
  ·exact .inr ⟨g,cap,cur,hv,Nat.le_trans hk1.size hg,r⟩
theorem ordersC (rb:Nat)(T ts:List Pl.Tok)(b:Bool)(w:World)(hR:RC w rb T ts 0 b) :
 Calls Tryz.prog 159 #[.pointer (some ⟨rb,0,none⟩)] w (PostL 328 2 shO w rb T 0 b (Pl.pKeys ts)):=by
 have HT:=Z (takeC 36 (by decide) rb T ts 0 b w hR)
 clear hR
 by_cases h36:(Pl.hd ts).k=36
 ·have hx:=nxn h36
  rw [hx,(nx_yes (b:=b) hx).2.2.2] at HT
  go_enter Tryz.func159,Tryz.ntmps159
  go_wp2_with fail
  refine (U HT).mono ?_
  rintro e w1 ⟨rfl,hr1,hk1⟩
  have hz1:=hr1.lt
  have HE:=Z (needC [37] 1 rfl (by decide) (by decide) w1.heap.size 1 rb T ts.tail 0 b _ (hr1.alloc (.cells #[.int .i64 37] 129)) (kinds_new w1 [37] _ _ rfl) (by omega))
  rw [needs1] at HE
  have HK1:=Z hk1
  clear hr1 hk1 HT
  go_wp2_with fail
  refine (U HE).mono ?_
  rintro e w2 ⟨rfl,hr2,hk2⟩
  have HK2:=Z ((HK1.out.alloc (.cells #[.int .i64 37] 129)).trans hk2)
  by_cases h37:(Pl.hd ts.tail).k=37
  ·rw [if_pos h37] at hr2
   have HV:Hid (Pl.pKeys ts=Pl.listed Pl.iKey ts.tail.tail):=by unfold Hid Pl.pKeys;rw [if_pos h36,if_pos h37]
   have HL:=Z (listO 214 (fun a w=>by go_simp) Pl.iKey Pl.iKey_shr oneO rb T ts.tail.tail b w2 hr2)
   clear hr2 hk2 HE
   go_wp2_with fail
   refine (U HL).mono ?_
   intro e w3 h3
   have h4:=h3.base HK2.out
   obtain ⟨hk4,a,n,c,rfl,hp⟩:=h4
   have HP:=Z hp
   clear h3 hp
   go_wp2_with fail
   go_ret
   exact ⟨hk4,a,n,c,rfl,by rw [HV.out];exact HP.out⟩
  ·rw [if_neg h37] at hr2
   have HV:Hid (Pl.pKeys ts=none):=by unfold Hid Pl.pKeys;rw [if_pos h36,if_neg h37]
   have HL:=Z (listO 214 (fun a w=>by go_simp) Pl.iKey Pl.iKey_shr oneO rb T [] true w2 hr2)
   clear hr2 hk2 HE
   go_wp2_with fail
   refine (U HL).mono ?_
   intro e w3 h3
   have h4:=h3.wrong.base HK2.out
   obtain ⟨hk4,a,n,c,rfl,hp⟩:=h4
   have HP:=Z hp
   clear h3 hp
   go_wp2_with fail
   go_ret
   exact ⟨hk4,a,n,c,rfl,by rw [HV.out];exact HP.out⟩
 ·have hx:=nxf h36
  rw [hx,(nx_no (b:=b) hx).2.2.2] at HT
  have HV:Hid (Pl.pKeys ts=some ([],ts)):=by unfold Hid Pl.pKeys;rw [if_neg h36]
  go_enter Tryz.func159,Tryz.ntmps159
  go_wp2_with fail
  refine (U HT).mono ?_
  rintro e w1 ⟨rfl,hr1,hk1⟩
  go_wp2_with fail
  go_ret
  exact ⟨hk1,none,0,0,rfl,by rw [HV.out];exact ⟨⟨[],World.ownsRow_nil _ _ _ _,rfl⟩,hr1⟩⟩
def PostLim (w:World)(rb:Nat)(T:List Pl.Tok)(b:Bool)(ts:List Pl.Tok)(e:Ending)(w':World):Prop :=
 Keeps rb w w'/\∃ l o:Int,e=.returned (.tuple #[.int .i64 l,.int .i64 o])/\match Pl.pLimit ts with
  | some (z,r)=>l=(if z.1=-1/\(Pl.hd ts).k≠39 then 9223372036854775807 else z.1)/\o=z.2/\RC w' rb T r 0 b
  | none=>RC w' rb T [] 0 true
theorem limitC (rb:Nat)(T ts:List Pl.Tok)(b:Bool)(w:World)(hR:RC w rb T ts 0 b) :
 Calls Tryz.prog 160 #[.pointer (some ⟨rb,0,none⟩)] w (PostLim w rb T b ts):=by
 have HT:=Z (takeC 39 (by decide) rb T ts 0 b w hR)
 clear hR
 by_cases h39:(Pl.hd ts).k=39
 ·have hx:=nxn h39
  rw [hx,(nx_yes (b:=b) hx).2.2.2] at HT
  go_enter Tryz.func160,Tryz.ntmps160
  go_wp2_with fail
  refine (U HT).mono ?_
  rintro e w1 ⟨rfl,hr1,hk1⟩
  have HN:=Z (numberC rb T ts.tail 0 b w1 hr1)
  have HK1:=Z hk1
  clear hr1 hk1 HT
  go_wp2_with fail
  refine (U HN).mono ?_
  rintro e w2 ⟨rfl,hr2,hk2⟩
  have HK2:=Z (HK1.out.trans hk2)
  have HTO:=Z (takeC 40 (by decide) rb T (nx ts.tail 2) 0 (bx ts.tail 2 b) w2 hr2)
  clear hr2 hk2 HN
  by_cases h2:(Pl.hd ts.tail).k=2
  ·have hy:=nxn h2
   obtain ⟨e1,e2,e3,_⟩:=nx_yes (b:=b) hy
   rw [e1,e2] at HTO
   rw [e3]
   by_cases h40:(Pl.hd ts.tail.tail).k=40
   ·have hq:=nxn h40
    rw [hq,(nx_yes (b:=b) hq).2.2.2] at HTO
    go_wp2_with fail
    refine (U HTO).mono ?_
    rintro e w3 ⟨rfl,hr3,hk3⟩
    have HK3:=Z (HK2.out.trans hk3)
    have HN2:=Z (numberC rb T ts.tail.tail.tail 0 b w3 hr3)
    clear hr3 hk3 HTO
    go_wp2_with fail
    refine (U HN2).mono ?_
    rintro e w4 ⟨rfl,hr4,hk4⟩
    have HR4:=Z hr4
    have HK4:=Z (HK3.out.trans hk4)
    clear hr4 hk4 HN2
    go_wp2_with fail
    refine bodyPost_ret (v:=.tuple #[.int .i64 (Pl.hd ts.tail).n,.int .i64 (tokR ts.tail.tail.tail 2).n]) (by simp [results,Tryz.results160,go_sem]) rfl ⟨HK4.out,_,_,rfl,?_⟩
    have hr:=HR4.out
    unfold Pl.pLimit
    rw [if_pos h39,if_pos h2,if_pos h40]
    by_cases h22:(Pl.hd ts.tail.tail.tail).k=2
    ·obtain ⟨e1,e2,e3,_⟩:=nx_yes (b:=b) (nxn h22)
     rw [e1,e2] at hr
     rw [if_pos h22]
     exact ⟨by rw [if_neg (fun h=>h.2 h39)],by rw [e3],hr⟩
    ·obtain ⟨e1,e2,e3,_⟩:=nx_no (b:=b) (nxf h22)
     rw [e1,e2] at hr
     rw [if_neg h22]
     exact hr
   ·have hq:=nxf h40
    rw [hq,(nx_no (b:=b) hq).2.2.2] at HTO
    go_wp2_with fail
    refine (U HTO).mono ?_
    rintro e w3 ⟨rfl,hr3,hk3⟩
    have HR3:=Z hr3
    have HK3:=Z (HK2.out.trans hk3)
    clear hr3 hk3 HTO
    go_wp2_with fail
    refine bodyPost_ret (v:=.tuple #[.int .i64 (Pl.hd ts.tail).n,.int .i64 0]) (by simp [results,Tryz.results160,go_sem]) rfl ⟨HK3.out,_,_,rfl,?_⟩
    unfold Pl.pLimit
    rw [if_pos h39,if_pos h2,if_neg h40]
    exact ⟨by rw [if_neg (fun h=>h.2 h39)],rfl,HR3.out⟩
  ·have hy:=nxf h2
   obtain ⟨e1,e2,e3,_⟩:=nx_no (b:=b) hy
   rw [e1,e2,show hk ([]:List Pl.Tok) 40=false from rfl,show tl [] 40=[] from rfl] at HTO
   go_wp2_with fail
   refine (U HTO).mono ?_
   rintro e w3 ⟨rfl,hr3,hk3⟩
   have HR3:=Z hr3
   have HK3:=Z (HK2.out.trans hk3)
   clear hr3 hk3 HTO
   go_wp2_with fail
   refine bodyPost_ret (v:=.tuple #[.int .i64 (tokR ts.tail 2).n,.int .i64 0]) (by simp [results,Tryz.results160,go_sem,e3]) rfl ⟨HK3.out,_,_,rfl,?_⟩
   unfold Pl.pLimit
   rw [if_pos h39,if_neg h2]
   exact HR3.out
 ·have hx:=nxf h39
  rw [hx,(nx_no (b:=b) hx).2.2.2] at HT
  go_enter Tryz.func160,Tryz.ntmps160
  go_wp2_with fail
  refine (U HT).mono ?_
  rintro e w1 ⟨rfl,hr1,hk1⟩
  have HR1:=Z hr1
  have HK1:=Z hk1
  clear hr1 hk1 HT
  go_wp2_with fail
  refine bodyPost_ret (v:=.tuple #[.int .i64 9223372036854775807,.int .i64 0]) (by simp [results,Tryz.results160,go_sem]) rfl ⟨HK1.out,_,_,rfl,?_⟩
  unfold Pl.pLimit
  rw [if_neg h39]
  exact ⟨by rw [if_pos ⟨rfl,h39⟩],rfl,HR1.out⟩
def valX (it:Pl.It)(v:Value):Value:=.agg #[.string ⟨it.name.toArray⟩,.string ⟨it.other.toArray⟩,.bool it.mark,v]
def shX (it:Pl.It)(v:Value):List Value:=[.string ⟨it.name.toArray⟩,.string ⟨it.other.toArray⟩,.bool it.mark,v]
theorem box4 {w w':World}{rb:Nat}{T:List Pl.Tok}{C:Array Value}{e:TypeId}(hz:rb<w.heap.size)(hk:Keeps rb w w')(hbx:w'.heap[w.heap.size]?=some (.cells C e))(he:e≠269)(x y z u:Value) :
 Keeps rb w ((((w'.setCell ⟨w.heap.size,0,none⟩ x).setCell ⟨w.heap.size,1,none⟩ y).setCell ⟨w.heap.size,2,none⟩ z).setCell ⟨w.heap.size,3,none⟩ u) /\
 (∀ ts d b,RC w' rb T ts d b->RC ((((w'.setCell ⟨w.heap.size,0,none⟩ x).setCell ⟨w.heap.size,1,none⟩ y).setCell ⟨w.heap.size,2,none⟩ z).setCell ⟨w.heap.size,3,none⟩ u) rb T ts d b) /\
 (∀ t v,CTree w' rb t v->CTree ((((w'.setCell ⟨w.heap.size,0,none⟩ x).setCell ⟨w.heap.size,1,none⟩ y).setCell ⟨w.heap.size,2,none⟩ z).setCell ⟨w.heap.size,3,none⟩ u) rb t v):=by
 refine ⟨(((hk.setNew (Nat.le_refl _) _).setNew (Nat.le_refl _) _).setNew (Nat.le_refl _) _).setNew (Nat.le_refl _) _,fun ts d b h=>(((h.setNew hz _ _).setNew hz _ _).setNew hz _ _).setNew hz _ _,fun t v h=>?_⟩
 exact (((h.setOther hbx he 0 x).setOther (bS hbx 0 x) he 1 y).setOther (bS (bS hbx 0 x) 1 y) he 2 z).setOther (bS (bS (bS hbx 0 x) 1 y) 2 z) he 3 u
theorem oneX:CO valX 211 Pl.iSource:=by
 intro rb T ts b w hR
 have HN:=Z (nameC rb T ts 0 b _ (hR.alloc (.cells #[.string { data:=#[] },.string { data:=#[] },.bool false,.pointer none] 324)))
 have hz:=hR.lt
 clear hR
 go_enter Tryz.func211,Tryz.ntmps211
 go_wp2_with fail
 refine (U HN).mono ?_
 rintro e w1 ⟨rfl,hr1,hk1⟩
 have HT:=Z (takeC 32 (by decide) rb T (nx ts 1) 0 (bx ts 1 b) w1 hr1)
 have HK1:=Z hk1
 clear hr1 hk1 HN
 by_cases h32:(Pl.hd (nx ts 1)).k=32
 ·have hx:=nxn h32
  rw [hx,(nx_yes (b:=bx ts 1 b) hx).2.2.2] at HT
  go_wp2_with fail
  refine (U HT).mono ?_
  rintro e w2 ⟨rfl,hr2,hk2⟩
  have HK2:=Z (HK1.out.trans hk2)
  have HN2:=Z (nameC rb T (nx ts 1).tail 0 (bx ts 1 b) w2 hr2)
  clear hr2 hk2 HT
  go_wp2_with fail
  refine (U HN2).mono ?_
  rintro e w3 ⟨rfl,hr3,hk3⟩
  have hk13:=HK2.out.trans hk3
  have hbx:=hk13.blk (by omega) (blk_new w (.cells #[.string { data:=#[] },.string { data:=#[] },.bool false,.pointer none] 324))
  have b0:=bC hbx 0
  have b1:=bC hbx 1
  have b2:=bC hbx 2
  have b3:=bC hbx 3
  have bf:=bF hbx
  have hzb:=lB hbx
  simp at b0 b1 b2 b3
  have HBX:=Z (box4 (T:=T) hz (((Keeps.refl rb w).alloc (.cells #[.string { data:=#[] },.string { data:=#[] },.bool false,.pointer none] 324)).trans hk13) hbx (by decide))
  have HR3:=Z hr3
  clear hr3 hk3 hk13 hbx HN2
  go_wp2_with fail
  refine bodyPost_ret (v:=.agg #[.string ⟨(tokR ts 1).s.toArray⟩,.string ⟨(tokR (nx ts 1).tail 1).s.toArray⟩,.bool false,.pointer none]) ?_ rfl ?_
  ·simp [results,Tryz.results211,go_sem,b0,b1,b2,b3]
  ·obtain ⟨h1,h2,h3⟩:=HBX.out (.string ⟨(tokR ts 1).s.toArray⟩) (.string ⟨(tokR (nx ts 1).tail 1).s.toArray⟩) (.bool false) (.pointer none)
   refine ⟨h1,⟨(tokR ts 1).s,(tokR (nx ts 1).tail 1).s,0,.nil,false⟩,none,rfl,?_⟩
   have hr:=HR3.out
   generalize hW:(((w3.setCell ⟨w.heap.size,0,none⟩ (.string ⟨(tokR ts 1).s.toArray⟩)).setCell ⟨w.heap.size,1,none⟩ (.string ⟨(tokR (nx ts 1).tail 1).s.toArray⟩)).setCell ⟨w.heap.size,2,none⟩ (.bool false)).setCell ⟨w.heap.size,3,none⟩ (.pointer none)=W at *
   clear hW
   by_cases hn:(Pl.hd ts).k=1
   ·obtain ⟨e1,e2,e3,_⟩:=nx_yes (b:=b) (nxn hn)
    rw [e1,e2] at hr
    rw [e1] at h32
    rw [e1,e3]
    unfold Pl.iSource
    rw [if_pos hn,if_pos h32]
    by_cases h11:(Pl.hd ts.tail.tail).k=1
    ·obtain ⟨f1,f2,f3,_⟩:=nx_yes (b:=b) (nxn h11)
     rw [f1,f2] at hr
     rw [if_pos h11,f3]
     exact ⟨rfl,rfl,h2 _ _ _ hr⟩
    ·obtain ⟨f1,f2,f3,_⟩:=nx_no (b:=b) (nxf h11)
     rw [f1,f2] at hr
     rw [if_neg h11]
     exact h2 _ _ _ hr
   ·obtain ⟨e1,e2,e3,_⟩:=nx_no (b:=b) (nxf hn)
    rw [e1] at h32
    cases h32
 ·have hx:=nxf h32
  rw [hx,(nx_no (b:=bx ts 1 b) hx).2.2.2] at HT
  go_wp2_with fail
  refine (U HT).mono ?_
  rintro e w2 ⟨rfl,hr2,hk2⟩
  have hk12:=HK1.out.trans hk2
  have hbx:=hk12.blk (by omega) (blk_new w (.cells #[.string { data:=#[] },.string { data:=#[] },.bool false,.pointer none] 324))
  have b0:=bC hbx 0
  have b1:=bC hbx 1
  have b2:=bC hbx 2
  have b3:=bC hbx 3
  have bf:=bF hbx
  have hzb:=lB hbx
  simp at b0 b1 b2 b3
  have HBX:=Z (box4 (T:=T) hz (((Keeps.refl rb w).alloc (.cells #[.string { data:=#[] },.string { data:=#[] },.bool false,.pointer none] 324)).trans hk12) hbx (by decide))
  have HR2:=Z hr2
  clear hr2 hk2 hk12 hbx HT
  go_wp2_with fail
  refine bodyPost_ret (v:=.agg #[.string ⟨(tokR ts 1).s.toArray⟩,.string ⟨(tokR ts 1).s.toArray⟩,.bool false,.pointer none]) ?_ rfl ?_
  ·simp [results,Tryz.results211,go_sem,b0,b1,b2,b3]
  ·obtain ⟨h1,h2,h3⟩:=HBX.out (.string ⟨(tokR ts 1).s.toArray⟩) (.string ⟨(tokR ts 1).s.toArray⟩) (.bool false) (.pointer none)
   refine ⟨h1,⟨(tokR ts 1).s,(tokR ts 1).s,0,.nil,false⟩,none,rfl,?_⟩
   have hr:=HR2.out
   generalize hW:(((w2.setCell ⟨w.heap.size,0,none⟩ (.string ⟨(tokR ts 1).s.toArray⟩)).setCell ⟨w.heap.size,1,none⟩ (.string ⟨(tokR ts 1).s.toArray⟩)).setCell ⟨w.heap.size,2,none⟩ (.bool false)).setCell ⟨w.heap.size,3,none⟩ (.pointer none)=W at *
   clear hW
   by_cases hn:(Pl.hd ts).k=1
   ·obtain ⟨e1,e2,e3,_⟩:=nx_yes (b:=b) (nxn hn)
    rw [e1,e2] at hr
    rw [e1] at h32
    rw [e3]
    unfold Pl.iSource
    rw [if_pos hn,if_neg h32]
    exact ⟨rfl,rfl,h2 _ _ _ hr⟩
   ·obtain ⟨e1,e2,e3,_⟩:=nx_no (b:=b) (nxf hn)
    rw [e1,e2] at hr
    unfold Pl.iSource
    rw [if_neg hn]
    exact h2 _ _ _ hr
namespace Pl
def iJoined:PI:=fun ts=>if (hd ts).k=33 then (if (hd ts.tail).k=34 then iJoin true ts.tail.tail else none) else if (hd ts).k=34 then iJoin false ts.tail else none
end Pl
theorem oneJ:CO valX 212 Pl.iJoined:=by
 intro rb T ts b w hR
 have HT:=Z (takeC 33 (by decide) rb T ts 0 b _ (hR.alloc (.cells #[.string { data:=#[] },.string { data:=#[] },.bool false,.pointer none] 324)))
 have hz:=hR.lt
 clear hR
 go_enter Tryz.func212,Tryz.ntmps212
 go_wp2_with fail
 refine (U HT).mono ?_
 rintro e w1 ⟨rfl,hr1,hk1⟩
 have hz1:=hr1.lt
 have HE:=Z (needC [34] 1 rfl (by decide) (by decide) w1.heap.size 1 rb T (tl ts 33) 0 b _ (hr1.alloc (.cells #[.int .i64 34] 129)) (kinds_new w1 [34] _ _ rfl) (by omega))
 have HK1:=Z hk1
 clear hr1 hk1 HT
 go_wp2_with fail
 refine (U HE).mono ?_
 rintro e w2 ⟨rfl,hr2,hk2⟩
 have HK2:=Z ((HK1.out.alloc (.cells #[.int .i64 34] 129)).trans hk2)
 have HS:Hid (∃ ts2 b2,RC w2 rb T ts2 0 b2/\((b2=b/\Pl.iJoined ts=Pl.iJoin (hk ts 33) ts2)\/(b2=true/\ts2=[]/\Pl.iJoined ts=none))):=by
  rw [needs1] at hr2
  unfold Pl.iJoined
  by_cases h33:(Pl.hd ts).k=33
  ·have hx:=nxn h33
   rw [(nx_yes (b:=b) hx).2.2.2] at hr2
   rw [hx,if_pos h33]
   by_cases h34:(Pl.hd ts.tail).k=34
   ·rw [if_pos h34] at hr2 ⊢
    exact ⟨_,b,hr2,.inl ⟨rfl,rfl⟩⟩
   ·rw [if_neg h34] at hr2 ⊢
    exact ⟨[],true,hr2,.inr ⟨rfl,rfl,rfl⟩⟩
  ·have hx:=nxf h33
   rw [(nx_no (b:=b) hx).2.2.2] at hr2
   rw [hx,if_neg h33]
   by_cases h34:(Pl.hd ts).k=34
   ·rw [if_pos h34] at hr2 ⊢
    exact ⟨_,b,hr2,.inl ⟨rfl,rfl⟩⟩
   ·rw [if_neg h34] at hr2 ⊢
    exact ⟨[],true,hr2,.inr ⟨rfl,rfl,rfl⟩⟩
 obtain ⟨ts2,b2,hrc,hcase⟩:=HS.out
 have HCS:=Z hcase
 have HX:=Z (oneX rb T ts2 b2 w2 hrc)
 clear hr2 hk2 HE HS hrc hcase
 go_wp2_with fail
 refine (U HX).mono ?_
 rintro e w3 ⟨hk3,it,a,rfl,hp3⟩
 unfold valX
 have HK3:=Z (HK2.out.trans hk3)
 have HP3:=Z hp3
 clear hk3 hp3 HX
 have hz3:rb<w3.heap.size:=by have:=HK3.out.size;simp at this;omega
 have hz03:w.heap.size<w3.heap.size:=by have:=HK3.out.size;simp at this;omega
 have hs3:∃ ts3 b3,RC w3 rb T ts3 0 b3/\((b3=b/\b2=b/\Pl.iJoined ts=Pl.iJoin (hk ts 33) ts2/\Pl.iSource ts2=some (it,ts3))\/(b3=true/\ts3=[]/\Pl.iJoined ts=none)):=by
  have hp:=HP3.out
  rcases HCS.out with ⟨rfl,hj⟩|⟨rfl,rfl,hj⟩
  ·cases hs:Pl.iSource ts2 with
   | none=>rw [hs] at hp;exact ⟨[],true,hp,.inr ⟨rfl,rfl,by rw [hj];unfold Pl.iJoin;rw [hs]⟩⟩
   | some y =>
    obtain ⟨x,r⟩:=y
    rw [hs] at hp
    obtain ⟨rfl,_,h3⟩:=hp
    exact ⟨r,b2,h3,.inl ⟨rfl,rfl,hj,rfl⟩⟩
  ·cases hs:Pl.iSource [] with
   | none=>rw [hs] at hp;exact ⟨[],true,hp,.inr ⟨rfl,rfl,hj⟩⟩
   | some y =>
    rw [hs] at hp
    have h4:=hp.2.2
    rw [RC0 h4] at h4
    exact ⟨[],true,h4,.inr ⟨rfl,rfl,hj⟩⟩
 obtain ⟨ts3,b3,hr3,hc3⟩:=hs3
 have HC3:=Z hc3
 have HE2:=Z (needC [35] 1 rfl (by decide) (by decide) (w3.heap.size+1) 1 rb T ts3 0 b3 _ ((hr3.alloc (.cells #[.string ⟨it.name.toArray⟩,.string ⟨it.other.toArray⟩,.bool it.mark,.pointer a] 324)).alloc (.cells #[.int .i64 35] 129)) (by have:=kinds_new (w3.alloc (.cells #[.string ⟨it.name.toArray⟩,.string ⟨it.other.toArray⟩,.bool it.mark,.pointer a] 324)) [35] _ 129 rfl;rw [show (w3.alloc (.cells #[.string ⟨it.name.toArray⟩,.string ⟨it.other.toArray⟩,.bool it.mark,.pointer a] 324)).heap.size=w3.heap.size+1 by simp] at this;exact this) (by omega))
 rw [needs1] at HE2
 clear hr3 hc3
 go_wp2_with fail
 refine (U HE2).mono ?_
 rintro e w4 ⟨rfl,hr4,hk4⟩
 have HK34:=Z ((((Keeps.refl rb w3).alloc (.cells #[.string ⟨it.name.toArray⟩,.string ⟨it.other.toArray⟩,.bool it.mark,.pointer a] 324)).alloc (.cells #[.int .i64 35] 129)).trans hk4)
 have hsb:=hk4.blk (by omega) (bA (blk_new w3 (.cells #[.string ⟨it.name.toArray⟩,.string ⟨it.other.toArray⟩,.bool it.mark,.pointer a] 324)) (.cells #[.int .i64 35] 129))
 have hs4:∃ ts4 b4,RC w4 rb T ts4 0 b4/\((b4=b/\Pl.iJoined ts=match Pl.pVal 20 ts4 with|none=>none|some (x,r')=>some (⟨it.name,it.other,0,x,hk ts 33⟩,r'))\/(b4=true/\ts4=[]/\Pl.iJoined ts=none)):=by
  rcases HC3.out with ⟨rfl,_,hj,hs⟩|⟨rfl,rfl,hj⟩
  ·by_cases h35:(Pl.hd ts3).k=35
   ·rw [if_pos h35] at hr4
    exact ⟨_,_,hr4,.inl ⟨rfl,by rw [hj];unfold Pl.iJoin;rw [hs];simp only;rw [if_pos h35];rfl⟩⟩
   ·rw [if_neg h35] at hr4
    exact ⟨[],true,hr4,.inr ⟨rfl,rfl,by rw [hj];unfold Pl.iJoin;rw [hs];simp only;rw [if_neg h35]⟩⟩
  ·rw [if_neg (by decide)] at hr4
   exact ⟨[],true,hr4,.inr ⟨rfl,rfl,hj⟩⟩
 obtain ⟨ts4,b4,hr4',hc4⟩:=hs4
 have HC4:=Z hc4
 have HV:=Z (codeValue rb T ts4 b4 w4 hr4')
 have HSB:=Z hsb
 clear hr4 hk4 hsb hr4' hc4 HE2
 go_wp2_with fail
 refine (U HV).mono ?_
 rintro e w5 ⟨hk5,a5,rfl,hp5⟩
 have HP5:=Z hp5
 have hsb5:=hk5.blk (by omega) HSB.out
 have hk05:=HK3.out.trans (HK34.out.trans hk5)
 have hbx:=hk05.blk (by omega) (blk_new w (.cells #[.string { data:=#[] },.string { data:=#[] },.bool false,.pointer none] 324))
 have b0:=bC hbx 0
 have b1:=bC hbx 1
 have b2':=bC hbx 2
 have b3':=bC hbx 3
 have bf:=bF hbx
 have hzb:=lB hbx
 have s0:=bC hsb5 0
 have s1:=bC hsb5 1
 have s2:=bC hsb5 2
 have s3:=bC hsb5 3
 have sf:=bF hsb5
 have hzs:=lB hsb5
 have hne1:¬ w3.heap.size=w.heap.size:=by omega
 have hne2:¬ w.heap.size=w3.heap.size:=by omega
 simp at b0 b1 b2' b3' s0 s1 s2 s3
 have HBX:=Z hbx
 have HSB5:=Z hsb5
 have HK5:=Z (((Keeps.refl rb w).alloc (.cells #[.string { data:=#[] },.string { data:=#[] },.bool false,.pointer none] 324)).trans hk05)
 clear hp5 hk5 hk05 hbx hsb5 HV
 go_wp2_with fail
 refine bodyPost_ret (v:=.agg #[.string ⟨it.name.toArray⟩,.string ⟨it.other.toArray⟩,.bool (hk ts 33),.pointer a5]) ?_ rfl ?_
 ·simp [results,Tryz.results212,go_sem,b0,b1,b2',b3',hne1,hne2]
 ·have hW1:Keeps rb w ((w5.setCell ⟨w3.heap.size,2,none⟩ (.bool (hk ts 33))).setCell ⟨w3.heap.size,3,none⟩ (.pointer a5)):=(HK5.out.setNew (by simp;omega) _).setNew (by simp;omega) _
  have hW2:=blk_set_ne (blk_set_ne HBX.out hne2 2 (.bool (hk ts 33))) hne2 3 (.pointer a5)
  obtain ⟨h1,h2,h3⟩:=box4 (T:=T) hz hW1 hW2 (by decide) (.string ⟨it.name.toArray⟩) (.string ⟨it.other.toArray⟩) (.bool (hk ts 33)) (.pointer a5)
  have h2':∀ ts d b,RC w5 rb T ts d b->RC _ rb T ts d b:=fun ts d b h=>h2 ts d b ((h.setNew hz3 2 _).setNew hz3 3 _)
  have h3':∀ t v,CTree w5 rb t v->CTree _ rb t v:=fun t v h=>h3 t v ((h.setOther HSB5.out (by decide) 2 _).setOther (bS HSB5.out 2 _) (by decide) 3 _)
  have hp:=HP5.out
  rcases HC4.out with ⟨rfl,hj⟩|⟨rfl,rfl,hj⟩
  ·rw [hj]
   cases hv:Pl.pVal 20 ts4 with
   | none=>rw [hv] at hp;exact ⟨h1,⟨it.name,it.other,0,.nil,hk ts 33⟩,a5,rfl,h2' _ _ _ hp⟩
   | some y =>
    obtain ⟨x,r⟩:=y
    rw [hv] at hp
    exact ⟨h1,⟨it.name,it.other,0,x,hk ts 33⟩,a5,rfl,rfl,h3' _ _ hp.1,h2' _ _ _ hp.2⟩
  ·rw [hj]
   refine ⟨h1,⟨it.name,it.other,0,.nil,hk ts 33⟩,a5,rfl,h2' _ _ _ ?_⟩
   cases hv:Pl.pVal 20 [] with
   | none=>rw [hv] at hp;exact hp
   | some y =>
    rw [hv] at hp
    have h4:=hp.2
    rw [RC0 h4] at h4;exact h4
theorem Tryz.infoSource:(Tryz.prog.info? 324).map (fun i=>(i.zero,i.size,i.bytes))=some (some (.agg #[.string { data:=#[] },.string { data:=#[] },.bool false,.pointer none]),4,48):=by kernel_rfl
def joinNext (its:List Pl.It):Option (Pl.It × List Pl.Tok)->Option (List Pl.It × List Pl.Tok)
 | none=>none
 | some y=>Pl.joins (y.2.length+1) (its++[y.1]) y.2
def cap3:Option (List Pl.It × List Pl.Tok)->Option (List Pl.It × List Pl.Tok)
 | none=>none
 | some z=>if 3<z.1.length then none else some z
theorem joins_unf {acc:List Pl.It}{ts:List Pl.Tok}:Pl.joins (ts.length+1) acc ts=if (Pl.hd ts).k=33\/(Pl.hd ts).k=34 then joinNext acc (Pl.iJoined ts) else some (acc,ts):=by
 unfold Pl.iJoined
 by_cases h33:(Pl.hd ts).k=33
 ·rw [if_pos (.inl h33),if_pos h33]
  by_cases h34:(Pl.hd ts.tail).k=34
  ·rw [if_pos h34]
   rw [Pl.joins_at (left:=true) ⟨h33,h34,rfl⟩]
   cases Pl.iJoin true ts.tail.tail <;> rfl
  ·rw [if_neg h34];exact Pl.joins_wrong h33 h34
 ·by_cases h34:(Pl.hd ts).k=34
  ·rw [if_pos (.inr h34),if_neg h33,if_pos h34]
   rw [Pl.joins_at (left:=false) ⟨h34,rfl⟩]
   cases Pl.iJoin false ts.tail <;> rfl
  ·rw [if_neg (by omega)];exact Pl.joins_end h33 h34
theorem joined_lt {ts r:List Pl.Tok}{it:Pl.It}(h:Pl.iJoined ts=some (it,r)):r.length<ts.length:=by
 unfold Pl.iJoined at h
 split at h
 ·rename_i h33
  have a1:=Pl.hd_tail_lt (by decide) h33
  split at h
  ·have t2:=Pl.tail_le ts.tail
   have:=Pl.iJoin_shr _ _ _ _ h;omega
  ·cases h
 ·split at h
  ·rename_i h34
   have a1:=Pl.hd_tail_lt (by decide) h34
   have:=Pl.iJoin_shr _ _ _ _ h;omega
  ·cases h
def LoopX4 (w wr:World)(rb:Nat)(T:List Pl.Tok)(b:Bool)(sp:Option (List Pl.It × List Pl.Tok))(g n:Nat)(v:Value)(cs:List Value)(r:List Pl.Tok)(b':Bool):Prop :=
 Keeps rb w wr/\wr.ownsRow w.heap.size 324 4 v n cs/\RC wr rb T r 0 b'/\n+r.length<=1048577/\((b'=b/\∃ its,n=its.length/\r.length<g/\ItAt wr rb shX its cs/\Pl.joins (r.length+1) its r=sp)\/(0<g/\r=[]/\b'=true/\sp=none))
theorem loopX_next {w w1 w2:World}{rb:Nat}{T:List Pl.Tok}{b:Bool}{sp:Option (List Pl.It × List Pl.Tok)}{its:List Pl.It}{tr:List Pl.Tok}{v':Value}{cs:List Value}{it:Pl.It}{a:Option Addr}{q:Option (Pl.It × List Pl.Tok)}(hk:Keeps rb w w2)
 (hm:∀ ts d b,RC w1 rb T ts d b->RC w2 rb T ts d b) (ht:∀ t v,CTree w1 rb t v->CTree w2 rb t v) (hI:ItAt w1 rb shX its cs) (hb:its.length+tr.length<=1048576) (hown:w2.ownsRow w.heap.size 324 4 v' (its.length+1) (cs++shX it (.pointer a)))
 (hp:match q with
  | some (x,r)=>it=x/\CTree w1 rb x.tree (.pointer a)/\RC w1 rb T r 0 b
  | none=>RC w1 rb T [] 0 true) (hlen:∀ x r,q=some (x,r)->r.length<=tr.length) (hsp:joinNext its q=sp):∃ r b',LoopX4 w w2 rb T b sp (tr.length+1) (its.length+1) v' (cs++shX it (.pointer a)) r b':=by
 cases q with
 | none=>exact ⟨[],true,hk,hown,hm _ _ _ hp,by simp;omega,.inr ⟨by omega,rfl,rfl,hsp.symm⟩⟩
 | some y =>
  obtain ⟨x,r⟩:=y
  obtain ⟨rfl,h1,h2⟩:=hp
  have:=hlen _ _ rfl
  exact ⟨r,b,hk,hown,hm _ _ _ h2,by omega,.inl ⟨rfl,its++[it],by simp,by omega,(hI.mono ht).snoc (ht _ _ h1),hsp⟩⟩
theorem loopX_meas {b b':Bool}{n g:Nat}{r:List Pl.Tok}{wr:World}{rb:Nat}{cs:List Value}{sp:Option (List Pl.It × List Pl.Tok)}(h:(b'=b/\∃ its,n=its.length/\r.length<g/\ItAt wr rb shX its cs/\Pl.joins (r.length+1) its r=sp)\/(0<g/\r=[]/\b'=true/\sp=none)):r.length<g:=by
 rcases h with ⟨_,its,_,h,_⟩|⟨h,rfl,_⟩
 ·exact h
 ·simpa using h
theorem sourcesC (rb:Nat)(T ts:List Pl.Tok)(b:Bool)(w:World)(hR:RC w rb T ts 0 b) :
 Calls Tryz.prog 158 #[.pointer (some ⟨rb,0,none⟩)] w (PostL 324 4 shX w rb T 0 b (cap3 (Pl.pSources ts))):=by
 obtain ⟨i0,hi,hz0,hz1,hz2⟩:=info_parts Tryz.infoSource
 have HX:=Z (oneX rb T ts b w hR)
 have hz:=hR.lt
 have hlen:=hR.len
 clear hR
 generalize hsp:Pl.pSources ts=sp
 have HSP:=Z hsp
 clear hsp
 go_enter Tryz.func158,Tryz.ntmps158
 go_wp2_with fail
 refine (U HX).mono ?_
 rintro e w1 ⟨hk1,it,a,rfl,hp⟩
 have hstart:=loopX_next (w:=w) (w1:=w1) (w2:=w1.alloc (.cells #[.string ⟨it.name.toArray⟩,.string ⟨it.other.toArray⟩,.bool it.mark,.pointer a] 324)) (its:=[]) (tr:=ts) (sp:=sp) (hk1.alloc _) (fun ts d b h=>h.alloc _) (fun t v h=>h.keeps ((Keeps.refl _ _).alloc _)) (show ItAt w1 rb shX [] [] from rfl) (by simpa using hlen) (own_new w1 _ 1 4 [.string ⟨it.name.toArray⟩,.string ⟨it.other.toArray⟩,.bool it.mark,.pointer a] _ hk1.size (by decide) rfl) hp (fun x r h=>Pl.iSource_shr _ _ _ h) (by rw [<- HSP.out];unfold Pl.pSources;cases Pl.iSource ts <;> rfl)
 have HS:=Z hstart
 have HK1:=Z hk1
 clear hstart hp hk1 HX
 unfold valX
 go_wp2_with fail
 go_loopg [3] (ts.length+1) (fun g x wr=>∃ n cs r b',Hid (LoopX4 w wr rb T b sp g n x cs r b'))
 case atStart =>
  obtain ⟨r,b',h⟩:=HS.out
  exact ⟨1,_,r,b',h⟩
 case round =>
  obtain ⟨n,cs,r,b',HI⟩:=hrel
  clear HS
  obtain ⟨hkw,hown,hr,hnb,hi⟩:=HI.out
  have HK:=Z hkw
  have HO:=Z hown
  have hsz:=hkw.size
  obtain ⟨va,vc,rfl⟩:=own_slice1 hown
  have HPk:=Z (peekC rb T r 0 b' wr hr)
  have HIi:=Z hi
  clear hkw hown hr HI hi
  have HG:=Z (loopX_meas HIi.out)
  by_cases h33:(Pl.hd r).k=33
  ·have HKK:Hid ((Pl.hd r).k=33):=h33
   have HOR:Hid ((Pl.hd r).k=33\/(Pl.hd r).k=34):=.inl h33
   have g33:(((Pl.hd r).k:Int) == 33)=true:=by simp [h33]
   clear h33
   go_wp2_with fail
   refine (U HPk).mono ?_
   rintro e w2 ⟨rfl,hr2,hk2⟩
   have HR2:=Z hr2
   have HK2:=Z (HK.out.trans hk2)
   have HKW:=Z hk2
   clear hr2 hk2 HPk
   have hgood:b'=b/\∃ its,n=its.length/\Pl.joins (r.length+1) its r=sp:=by
    rcases HIi.out with ⟨e,its,h1,h2,h3,h4⟩|⟨_,e,_,_⟩
    ·exact ⟨e,its,h1,h4⟩
    ·subst e;cases HKK.out
   have HJ:=Z (oneJ rb T r b' w2 HR2.out)
   go_wp2_with fail
   refine (U HJ).mono ?_
   rintro e w5 ⟨hk5,it5,a5,rfl,hp5⟩
   have HK5:=Z (HK2.out.trans hk5)
   have hown5:=own_keeps hk5 hz (own_keeps HKW.out hz HO.out)
   have hsz5:=HK5.out.size
   have HP5:=Z hp5
   have HK15:=Z (HKW.out.trans hk5)
   clear hk5 hp5 HJ
   unfold valX
   go_wp2_with (at_builtin;refine wpList_append_own _ rfl (.tmp 15) (.tmp 18) 226 rfl w.heap.size 324 i0 _ 4 48 Tryz.underlying226 hi hz0 hz1 hz2 rfl (by decide) _ _ _ rfl (hown5.alloc _) ⟨w5.heap.size,0,none⟩ 1 1 [.string ⟨it5.name.toArray⟩,.string ⟨it5.other.toArray⟩,.bool it5.mark,.pointer a5] rfl rfl ?c1 ?c2 ?c3 ?c4 ?c5 ?_)
   case c1=>exact news_at w5 [.string ⟨it5.name.toArray⟩,.string ⟨it5.other.toArray⟩,.bool it5.mark,.pointer a5] 324
   case c2=>intro u hu;simp at hu;rcases hu with rfl|rfl|rfl|rfl <;> rfl
   case c3=>unfold maxLen;omega
   case c4=>omega
   case c5=>simp;omega
   intro v' w6 hown6 hg6 hnil
   obtain ⟨hk6,hrt6,hct6⟩:=pushC (T:=T) (C:=[.string ⟨it5.name.toArray⟩,.string ⟨it5.other.toArray⟩,.bool it5.mark,.pointer a5]) (by decide) hz HK5.out hown5 hg6
   have HL6:Hid (∃ r2 b2,LoopX4 w w6 rb T b sp r.length (n+1) v' (cs++shX it5 (.pointer a5)) r2 b2):=by
    rcases HIi.out with ⟨e,its,h1,h2,h3,h4⟩|⟨_,e,_,_⟩
    ·subst e h1
     rw [joins_unf,if_pos HOR.out] at h4
     cases hq:Pl.iJoined r with
     | none =>
      have hp:=HP5.out
      rw [hq] at h4 hp
      have hrp:0<r.length:=by
       cases r with
       | nil=>cases HKK.out
       | cons q l=>simp
      exact ⟨[],true,hk6,hown6,hrt6 _ _ _ hp,by simp;omega,.inr ⟨hrp,rfl,rfl,h4.symm⟩⟩
     | some y =>
      obtain ⟨x,r2⟩:=y
      have hp:=HP5.out
      rw [hq] at h4 hp
      obtain ⟨rfl,k1,k2⟩:=hp
      have:=joined_lt hq
      exact ⟨r2,b',hk6,hown6,hrt6 _ _ _ k2,by omega,.inl ⟨rfl,its++[it5],by simp,this,((h3.mono (fun t v=>CTree.keeps HK15.out)).mono hct6).snoc (hct6 _ _ k1),h4⟩⟩
    ·subst e;cases HKK.out
   clear hown5 hown6 hg6 hnil hk6 hrt6 hct6 hgood
   go_wp2_with fail
   go_roundg r.length
   case measure=>exact HG.out
   case rel =>
    obtain ⟨r2,b2,h⟩:=HL6.out
    exact ⟨_,_,r2,b2,h⟩
  by_cases h34:(Pl.hd r).k=34
  ·have HKK:Hid ((Pl.hd r).k=34):=h34
   have HOR:Hid ((Pl.hd r).k=33\/(Pl.hd r).k=34):=.inr h34
   have g33:(((Pl.hd r).k:Int) == 33)=false:=by simp [h34]
   have g34:(((Pl.hd r).k:Int) == 34)=true:=by simp [h34]
   clear h34 h33
   go_wp2_with fail
   refine (U HPk).mono ?_
   rintro e w2 ⟨rfl,hr2,hk2⟩
   have HPk2:=Z (peekC rb T r 0 b' w2 hr2)
   have HK2:=Z (HK.out.trans hk2)
   have HKW:=Z hk2
   clear hr2 hk2 HPk
   go_wp2_with fail
   refine (U HPk2).mono ?_
   rintro e w3 ⟨rfl,hr3,hk3⟩
   have HR3:=Z hr3
   have HK3:=Z (HK2.out.trans hk3)
   have HKW3:=Z (HKW.out.trans hk3)
   clear hr3 hk3 HPk2
   have hgood:b'=b/\∃ its,n=its.length/\Pl.joins (r.length+1) its r=sp:=by
    rcases HIi.out with ⟨e,its,h1,h2,h3,h4⟩|⟨_,e,_,_⟩
    ·exact ⟨e,its,h1,h4⟩
    ·subst e;cases HKK.out
   have HJ:=Z (oneJ rb T r b' w3 HR3.out)
   go_wp2_with fail
   refine (U HJ).mono ?_
   rintro e w5 ⟨hk5,it5,a5,rfl,hp5⟩
   have HK5:=Z (HK3.out.trans hk5)
   have hown5:=own_keeps hk5 hz (own_keeps HKW3.out hz HO.out)
   have hsz5:=HK5.out.size
   have HP5:=Z hp5
   have HK15:=Z (HKW3.out.trans hk5)
   clear hk5 hp5 HJ
   unfold valX
   go_wp2_with (at_builtin;refine wpList_append_own _ rfl (.tmp 15) (.tmp 18) 226 rfl w.heap.size 324 i0 _ 4 48 Tryz.underlying226 hi hz0 hz1 hz2 rfl (by decide) _ _ _ rfl (hown5.alloc _) ⟨w5.heap.size,0,none⟩ 1 1 [.string ⟨it5.name.toArray⟩,.string ⟨it5.other.toArray⟩,.bool it5.mark,.pointer a5] rfl rfl ?c1 ?c2 ?c3 ?c4 ?c5 ?_)
   case c1=>exact news_at w5 [.string ⟨it5.name.toArray⟩,.string ⟨it5.other.toArray⟩,.bool it5.mark,.pointer a5] 324
   case c2=>intro u hu;simp at hu;rcases hu with rfl|rfl|rfl|rfl <;> rfl
   case c3=>unfold maxLen;omega
   case c4=>omega
   case c5=>simp;omega
   intro v' w6 hown6 hg6 hnil
   obtain ⟨hk6,hrt6,hct6⟩:=pushC (T:=T) (C:=[.string ⟨it5.name.toArray⟩,.string ⟨it5.other.toArray⟩,.bool it5.mark,.pointer a5]) (by decide) hz HK5.out hown5 hg6
   have HL6:Hid (∃ r2 b2,LoopX4 w w6 rb T b sp r.length (n+1) v' (cs++shX it5 (.pointer a5)) r2 b2):=by
    rcases HIi.out with ⟨e,its,h1,h2,h3,h4⟩|⟨_,e,_,_⟩
    ·subst e h1
     rw [joins_unf,if_pos HOR.out] at h4
     cases hq:Pl.iJoined r with
     | none =>
      have hp:=HP5.out
      rw [hq] at h4 hp
      have hrp:0<r.length:=by
       cases r with
       | nil=>cases HKK.out
       | cons q l=>simp
      exact ⟨[],true,hk6,hown6,hrt6 _ _ _ hp,by simp;omega,.inr ⟨hrp,rfl,rfl,h4.symm⟩⟩
     | some y =>
      obtain ⟨x,r2⟩:=y
      have hp:=HP5.out
      rw [hq] at h4 hp
      obtain ⟨rfl,k1,k2⟩:=hp
      have:=joined_lt hq
      exact ⟨r2,b',hk6,hown6,hrt6 _ _ _ k2,by omega,.inl ⟨rfl,its++[it5],by simp,this,((h3.mono (fun t v=>CTree.keeps HK15.out)).mono hct6).snoc (hct6 _ _ k1),h4⟩⟩
    ·subst e;cases HKK.out
   clear hown5 hown6 hg6 hnil hk6 hrt6 hct6 hgood
   go_wp2_with fail
   go_roundg r.length
   case measure=>exact HG.out
   case rel =>
    obtain ⟨r2,b2,h⟩:=HL6.out
    exact ⟨_,_,r2,b2,h⟩
  ·have g33:(((Pl.hd r).k:Int) == 33)=false:=by simp;omega
   have g34:(((Pl.hd r).k:Int) == 34)=false:=by simp;omega
   have HNR:Hid (¬ ((Pl.hd r).k=33\/(Pl.hd r).k=34)):=by unfold Hid;omega
   clear h34 h33
   go_wp2_with fail
   refine (U HPk).mono ?_
   rintro e w2 ⟨rfl,hr2,hk2⟩
   have HPk2:=Z (peekC rb T r 0 b' w2 hr2)
   have HK2:=Z (HK.out.trans hk2)
   have HKW:=Z hk2
   clear hr2 hk2 HPk
   go_wp2_with fail
   refine (U HPk2).mono ?_
   rintro e w3 ⟨rfl,hr3,hk3⟩
   have HR3:=Z hr3
   have HK3:=Z (HK2.out.trans hk3)
   have HKW3:=Z (HKW.out.trans hk3)
   have HO3:=Z (own_keeps (HKW.out.trans hk3) hz HO.out)
   clear hr3 hk3 HPk2
   by_cases h3:3<n
   ·go_wp2_with fail
    refine (failC rb T r 0 b' w3 HR3.out).mono ?_
    rintro e w4 ⟨rfl,hr4,hk4⟩
    go_wp2_with fail
    go_ret
    refine ⟨HK3.out.trans hk4,va,n,vc,rfl,?_⟩
    rcases HIi.out with ⟨e,its,h1,h2,h3',h4⟩|⟨_,e,_,h4⟩
    ·rw [joins_unf,if_neg HNR.out] at h4
     rw [<- h4]
     simp only [cap3]
     rw [if_pos (by omega)]
     exact hr4
    ·rw [h4];exact hr4
   ·go_wp2_with fail
    go_ret
    refine ⟨HK3.out,va,n,vc,rfl,?_⟩
    rcases HIi.out with ⟨e,its,h1,h2,h3',h4⟩|⟨_,e,e2,h4⟩
    ·rw [joins_unf,if_neg HNR.out] at h4
     rw [<- h4]
     simp only [cap3]
     rw [if_neg (by omega)]
     subst e h1
     exact ⟨⟨cs,HO3.out,h3'.mono (fun t v=>CTree.keeps HKW3.out)⟩,HR3.out⟩
    ·rw [h4]
     have h:=HR3.out
     subst e e2
     exact h
open Go.RowKit Go.Deep
set_option linter.unusedSimpArgs false
set_option linter.unusedVariables false
def CSt (w:World)(rb base:Nat)(s:Pl.St)(n:Nat):Prop :=
 base<=n/\(if s.kind=99 then ∃ v,w.heap[n]?=some (.cells #[.string ⟨s.table.toArray⟩,v] 190)/\ItsW w rb base 97 2 shC s.items v
 else if s.kind=105 then ∃ v,w.heap[n]?=some (.cells #[.string ⟨s.table.toArray⟩,v] 194)/\ItsW w rb base 199 1 shV s.items v
 else if s.kind=100 then ∃ v,w.heap[n]?=some (.cells #[.string ⟨s.table.toArray⟩,v] 201)/\CTree w rb s.whr v
 else if s.kind=117 then ∃ u v,w.heap[n]?=some (.cells #[.string ⟨s.table.toArray⟩,u,v] 213)/\ItsW w rb base 259 2 shS s.items u/\CTree w rb s.whr v
 else ∃ u x v o,w.heap[n]?=some (.cells #[.bool s.distinct,u,x,v,o,.int .i64 (if s.limit=-1 then 9223372036854775807 else s.limit),.int .i64 s.offset] 229)/\(if s.all=true then u=.slice none 0 0 else ItsW w rb base 199 1 shV s.items u)/\ItsW w rb base 324 4 shX s.sources x/\CTree w rb s.whr v/\ItsW w rb base 328 2 shO s.keys o)
def PostS (w:World)(rb:Nat)(T:List Pl.Tok)(b:Bool)(spec:Option (Pl.St × List Pl.Tok))(e:Ending)(w':World):Prop :=
 Keeps rb w w'/\∃ n:Nat,e=.returned (.pointer (some ⟨n,0,none⟩))/\match spec with
  | some (s,r)=>CSt w' rb w.heap.size s n/\RC w' rb T r 0 b
  | none=>RC w' rb T [] 0 true
theorem own_setOther {w:World}{base k:Nat}{e e':TypeId}{size n:Nat}{v:Value}{xs:List Value}{C:Array Value}(h:w.ownsRow base e size v n xs)(hk:w.heap[k]?=some (.cells C e'))(he:e'≠e)(o:Nat)(x:Value):(w.setCell ⟨k,o,none⟩ x).ownsRow base e size v n xs:=by
 obtain ⟨h1,h2⟩:=h
 refine ⟨h1,?_⟩
 rcases h2 with h2|⟨g,cap,cur,hv,hg,hh,r⟩
 ·exact .inl h2
 ·refine .inr ⟨g,cap,cur,hv,hg,blk_set_ne hh (fun e1=>?_) _ _,r⟩
  subst e1
  rw [hh] at hk
  injection hk with hk
  injection hk with _ hk _
  exact he hk.symm
theorem ItsW.setOther {w:World}{rb base k:Nat}{e e':TypeId}{size:Nat}{sh:Pl.It->Value->List Value}{its:List Pl.It}{v:Value}{C:Array Value}(h:ItsW w rb base e size sh its v)(hk:w.heap[k]?=some (.cells C e'))(he:e'≠e)(he2:e'≠269)(o:Nat)(x:Value):ItsW (w.setCell ⟨k,o,none⟩ x) rb base e size sh its v:=by
 obtain ⟨cs,h1,h2⟩:=h
 exact ⟨cs,own_setOther h1 hk he o x,h2.mono (fun t v h=>h.setOther hk he2 o x)⟩
theorem ItsW.base {w:World}{rb base base':Nat}{e:TypeId}{size:Nat}{sh:Pl.It->Value->List Value}{its:List Pl.It}{v:Value}(h:ItsW w rb base e size sh its v)(hb:base'<=base):ItsW w rb base' e size sh its v:=by
 obtain ⟨cs,⟨h1,h2⟩,h3⟩:=h
 refine ⟨cs,⟨h1,?_⟩,h3⟩
 rcases h2 with h2|⟨g,cap,cur,hv,hg,r⟩
 ·exact .inl h2
 ·exact .inr ⟨g,cap,cur,hv,by omega,r⟩
theorem kinds_new2 (w:World)(o:Obj)(ks:List Nat)(C:Array Value)(t:TypeId)(hC:C=(ks.map (fun k=>Value.int .i64 (k:Nat))).toArray):kindsAt ((w.alloc o).alloc (.cells C t)) (w.heap.size+1) ks:=by
 have h:=kinds_new (w.alloc o) ks C t hC
 rw [show (w.alloc o).heap.size=w.heap.size+1 by simp] at h
 exact h
def Gd {σ:Type}(b:Bool)(spec:Option σ)(ts:List Pl.Tok)(b':Bool)(P:Prop):Prop:=(b'=b/\P)\/(b'=true/\ts=[]/\spec=none)
theorem Gd.map {σ:Type}{b:Bool}{spec:Option σ}{ts:List Pl.Tok}{b':Bool}{P Q:Prop}(h:Gd b spec ts b' P)(f:P->Q):Gd b spec ts b' Q:=by
 rcases h with ⟨e,p⟩|h
 ·exact .inl ⟨e,f p⟩
 ·exact .inr h
theorem g_need {σ:Type}{b:Bool}{spec:Option σ}{ts:List Pl.Tok}{b':Bool}{P:Prop}{k:Nat}{w:World}{rb:Nat}{T:List Pl.Tok}(cont:List Pl.Tok->Option σ)(hg:Gd b spec ts b' P)(hP:P->spec=if (Pl.hd ts).k=k then cont ts.tail else none)(hk0:k≠0)(hr:RCo w rb T (needs [k] ts) 0 b') :
 ∃ ts2 b2,RC w rb T ts2 0 b2/\Gd b spec ts2 b2 (P/\spec=cont ts2):=by
 rw [needs1] at hr
 rcases hg with ⟨rfl,p⟩|⟨rfl,rfl,hs⟩
 ·by_cases h:(Pl.hd ts).k=k
  ·rw [if_pos h] at hr
   exact ⟨ts.tail,b',hr,.inl ⟨rfl,p,by rw [hP p,if_pos h]⟩⟩
  ·rw [if_neg h] at hr
   exact ⟨[],true,hr,.inr ⟨rfl,rfl,by rw [hP p,if_neg h]⟩⟩
 ·rw [if_neg (fun h=>hk0 h.symm)] at hr
  exact ⟨[],true,hr,.inr ⟨rfl,rfl,hs⟩⟩
theorem g_need2 {σ:Type}{b:Bool}{spec:Option σ}{ts:List Pl.Tok}{b':Bool}{P:Prop}{k:Nat}{w:World}{rb:Nat}{T:List Pl.Tok}(hg:Gd b spec ts b' P)(hP:P->(Pl.hd ts).k≠k->spec=none)(hk0:k≠0)(hr:RCo w rb T (needs [k] ts) 0 b') :
 ∃ ts2 b2,RC w rb T ts2 0 b2/\Gd b spec ts2 b2 (P/\(Pl.hd ts).k=k/\ts2=ts.tail):=by
 rw [needs1] at hr
 rcases hg with ⟨rfl,p⟩|⟨rfl,rfl,hs⟩
 ·by_cases h:(Pl.hd ts).k=k
  ·rw [if_pos h] at hr
   exact ⟨ts.tail,b',hr,.inl ⟨rfl,p,h,rfl⟩⟩
  ·rw [if_neg h] at hr
   exact ⟨[],true,hr,.inr ⟨rfl,rfl,hP p h⟩⟩
 ·rw [if_neg (fun h=>hk0 h.symm)] at hr
  exact ⟨[],true,hr,.inr ⟨rfl,rfl,hs⟩⟩
theorem g_name {σ:Type}{b:Bool}{spec:Option σ}{ts:List Pl.Tok}{b':Bool}{P:Prop}(cont:List UInt8->List Pl.Tok->Option σ)(hg:Gd b spec ts b' P)(hP:P->spec=if (Pl.hd ts).k=1 then cont (Pl.hd ts).s ts.tail else none):Gd b spec (nx ts 1) (bx ts 1 b') (P/\spec=cont (tokR ts 1).s (nx ts 1)):=by
 rcases hg with ⟨rfl,p⟩|⟨rfl,rfl,hs⟩
 ·by_cases h:(Pl.hd ts).k=1
  ·obtain ⟨e1,e2,e3,_⟩:=nx_yes (b:=b') (nxn h)
   rw [e1,e2,e3]
   exact .inl ⟨rfl,p,by rw [hP p,if_pos h]⟩
  ·obtain ⟨e1,e2,e3,_⟩:=nx_no (b:=b') (nxf h)
   rw [e1,e2]
   exact .inr ⟨rfl,rfl,by rw [hP p,if_neg h]⟩
 ·exact .inr ⟨rfl,rfl,hs⟩
theorem g_list {σ:Type}{b:Bool}{spec:Option σ}{ts:List Pl.Tok}{b':Bool}{P:Prop}{w':World}{rb base:Nat}{T:List Pl.Tok}{e:TypeId}{size:Nat}{sh:Pl.It->Value->List Value}{v:Value}{l:Option (List Pl.It × List Pl.Tok)}(cont:List Pl.It->List Pl.Tok->Option σ)(hg:Gd b spec ts b' P)(hP:P->spec=match l with|none=>none|some y=>cont y.1 y.2)
 (hp:match (generalizing:=false) l with
  | some (its,r)=>ItsW w' rb base e size sh its v/\RC w' rb T r 0 b'
  | none=>RC w' rb T [] 0 true):∃ ts2 b2,RC w' rb T ts2 0 b2/\Gd b spec ts2 b2 (P/\∃ its,ItsW w' rb base e size sh its v/\spec=cont its ts2):=by
 cases l with
 | none =>
  rcases hg with ⟨rfl,p⟩|⟨rfl,rfl,hs⟩
  ·exact ⟨[],true,hp,.inr ⟨rfl,rfl,hP p⟩⟩
  ·exact ⟨[],true,hp,.inr ⟨rfl,rfl,hs⟩⟩
 | some y =>
  obtain ⟨its,r⟩:=y
  rcases hg with ⟨rfl,p⟩|⟨rfl,rfl,hs⟩
  ·exact ⟨r,b',hp.2,.inl ⟨rfl,p,its,hp.1,hP p⟩⟩
  ·have h2:=hp.2
   rw [RC0 h2] at h2
   exact ⟨[],true,h2,.inr ⟨rfl,rfl,hs⟩⟩
theorem g_val {σ:Type}{b:Bool}{spec:Option σ}{ts:List Pl.Tok}{b':Bool}{P:Prop}{w':World}{rb:Nat}{T:List Pl.Tok}{a:Option Addr}{l:Option (Pl.T × List Pl.Tok)}(cont:Pl.T->List Pl.Tok->Option σ)(hg:Gd b spec ts b' P)(hP:P->spec=match l with|none=>none|some y=>cont y.1 y.2)
 (hp:match (generalizing:=false) l with
  | some (x,r)=>CTree w' rb x (.pointer a)/\RC w' rb T r 0 b'
  | none=>RC w' rb T [] 0 true):∃ ts2 b2,RC w' rb T ts2 0 b2/\Gd b spec ts2 b2 (P/\∃ x,CTree w' rb x (.pointer a)/\spec=cont x ts2):=by
 cases l with
 | none =>
  rcases hg with ⟨rfl,p⟩|⟨rfl,rfl,hs⟩
  ·exact ⟨[],true,hp,.inr ⟨rfl,rfl,hP p⟩⟩
  ·exact ⟨[],true,hp,.inr ⟨rfl,rfl,hs⟩⟩
 | some y =>
  obtain ⟨x,r⟩:=y
  rcases hg with ⟨rfl,p⟩|⟨rfl,rfl,hs⟩
  ·exact ⟨r,b',hp.2,.inl ⟨rfl,p,x,hp.1,hP p⟩⟩
  ·have h2:=hp.2
   rw [RC0 h2] at h2
   exact ⟨[],true,h2,.inr ⟨rfl,rfl,hs⟩⟩
theorem Gd.post {w w':World}{rb:Nat}{T ts:List Pl.Tok}{b b':Bool}{spec:Option (Pl.St × List Pl.Tok)}{n:Nat}{P:Prop}(hk:Keeps rb w w')(hr:RC w' rb T ts 0 b')(hg:Gd b spec ts b' P)(hP:P->∃ s,spec=some (s,ts)/\CSt w' rb w.heap.size s n):PostS w rb T b spec (.returned (.pointer (some ⟨n,0,none⟩))) w':=by
 refine ⟨hk,n,rfl,?_⟩
 rcases hg with ⟨rfl,p⟩|⟨rfl,rfl,hs⟩
 ·obtain ⟨s,h1,h2⟩:=hP p
  rw [h1];exact ⟨h2,hr⟩
 ·rw [hs];exact hr
def ccr4 (nm:List UInt8)(its:List Pl.It)(ts:List Pl.Tok):Option (Pl.St × List Pl.Tok):=if 5<its.length then none else some (Pl.st0 99 nm its .nil,ts)
def ccr3 (nm:List UInt8)(its:List Pl.It)(ts:List Pl.Tok):Option (Pl.St × List Pl.Tok):=if (Pl.hd ts).k=8 then ccr4 nm its ts.tail else none
def ccr2 (nm:List UInt8)(ts:List Pl.Tok):Option (Pl.St × List Pl.Tok):=match Pl.listed Pl.iField ts with|none=>none|some y=>ccr3 nm y.1 y.2
def ccr1 (nm:List UInt8)(ts:List Pl.Tok):Option (Pl.St × List Pl.Tok):=if (Pl.hd ts).k=7 then ccr2 nm ts.tail else none
def ccr0 (ts:List Pl.Tok):Option (Pl.St × List Pl.Tok):=if (Pl.hd ts).k=1 then ccr1 (Pl.hd ts).s ts.tail else none
theorem inOpen_eq (p:Pl.PI)(ts:List Pl.Tok):Pl.inOpen p ts=if (Pl.hd ts).k=7 then (match Pl.listed p ts.tail with|none=>none|some y=>if (Pl.hd y.2).k=8 then some (y.1,y.2.tail) else none) else none:=by
 unfold Pl.inOpen
 split
 ·cases Pl.listed p ts.tail <;> rfl
 ·rfl
theorem pCreate_eq (ts:List Pl.Tok):Pl.pCreate ts=if (Pl.hd ts).k=21 then ccr0 ts.tail else none:=by
 unfold Pl.pCreate ccr0 ccr1 ccr2
 rw [inOpen_eq]
 by_cases h21:(Pl.hd ts).k=21
 ·rw [if_pos h21,if_pos h21]
  by_cases h1:(Pl.hd ts.tail).k=1
  ·rw [if_pos h1,if_pos h1]
   by_cases h7:(Pl.hd ts.tail.tail).k=7
   ·rw [if_pos h7,if_pos h7]
    cases hl:Pl.listed Pl.iField ts.tail.tail.tail with
    | none=>rfl
    | some y =>
     simp only [ccr3,ccr4]
     by_cases h8:(Pl.hd y.2).k=8
     ·rw [if_pos h8,if_pos h8]
     ·rw [if_neg h8,if_neg h8]
   ·rw [if_neg h7,if_neg h7]
  ·rw [if_neg h1,if_neg h1]
 ·rw [if_neg h21,if_neg h21]
theorem createC (rb:Nat)(T ts:List Pl.Tok)(b:Bool)(w:World)(hR:RC w rb T ts 0 b) :
 Calls Tryz.prog 95 #[.pointer (some ⟨rb,0,none⟩)] w (PostS w rb T b (Pl.pCreate ts)):=by
 have hz:=hR.lt
 have HE:=Z (needC [21] 1 rfl (by decide) (by decide) w.heap.size 1 rb T ts 0 b _ (hR.alloc (.cells #[.int .i64 21] 129)) (kinds_new w [21] _ _ rfl) (by omega))
 clear hR
 generalize hsp:Pl.pCreate ts=sp
 rw [pCreate_eq] at hsp
 have HSP:=Z hsp
 clear hsp
 go_enter Tryz.func95,Tryz.ntmps95
 go_wp2_with fail
 refine (U HE).mono ?_
 rintro e w1 ⟨rfl,hr1,hk1⟩
 obtain ⟨t1,b1,hr1,hg1⟩:=g_need (b:=b) (spec:=sp) (P:=True) ccr0 (.inl ⟨rfl,trivial⟩) (fun _=>HSP.out.symm) (by decide) hr1
 have HN:=Z (nameC rb T t1 0 b1 w1 hr1)
 have hg2:=g_name ccr1 hg1 (fun h=>h.2)
 have HG2:=Z (hg2.map (fun h=>h.2))
 have HK1:=Z (((Keeps.refl rb w).alloc (.cells #[.int .i64 21] 129)).trans hk1)
 clear hr1 hk1 HE hg1 hg2
 go_wp2_with fail
 refine (U HN).mono ?_
 rintro e w2 ⟨rfl,hr2,hk2⟩
 have hz2:=hr2.lt
 have HK2:=Z (HK1.out.trans hk2)
 have hz02:=HK2.out.size
 have HE2:=Z (needC [7] 1 rfl (by decide) (by decide) (w2.heap.size+1) 1 rb T (nx t1 1) 0 (bx t1 1 b1) _ ((hr2.alloc (.cells #[.string ⟨(tokR t1 1).s.toArray⟩,.slice none 0 0] 190)).alloc (.cells #[.int .i64 7] 129)) (kinds_new2 w2 _ [7] _ _ rfl) (by omega))
 clear hr2 hk2 HN
 generalize (tokR t1 1).s=nm at *
 go_wp2_with fail
 refine (U HE2).mono ?_
 rintro e w3 ⟨rfl,hr3,hk3⟩
 obtain ⟨t3,b3,hr3,hg3⟩:=g_need (ccr2 nm) HG2.out (fun h=>h) (by decide) hr3
 have HG3:=Z (hg3.map (fun h=>h.2))
 have hsb:=hk3.blk (by omega) (bA (blk_new w2 (.cells #[.string ⟨nm.toArray⟩,.slice none 0 0] 190)) (.cells #[.int .i64 7] 129))
 have HK3:=Z (((HK2.out.alloc (.cells #[.string ⟨nm.toArray⟩,.slice none 0 0] 190)).alloc (.cells #[.int .i64 7] 129)).trans hk3)
 have HL:=Z (listC 152 (fun a w=>by go_simp) Pl.iField Pl.iField_shr oneC rb T t3 b3 w3 hr3)
 have HSB:=Z hsb
 clear hr3 hk3 HE2 hsb hg3 HG2
 go_wp2_with fail
 refine (U HL).mono ?_
 rintro e w4 ⟨hk4,a,n,c,rfl,hp4⟩
 have hsb4:=hk4.blk (by omega) HSB.out
 have s0:=bC hsb4 0
 have s1:=bC hsb4 1
 have sf:=bF hsb4
 have hzs:=lB hsb4
 simp at s0 s1
 have HK4:=Z (HK3.out.trans hk4)
 have hz34:w.heap.size<=w3.heap.size:=HK3.out.size
 obtain ⟨t4,b4,hr4,hg4⟩:=g_list (ccr3 nm) HG3.out (fun h=>h) hp4
 have hr4':=hr4.setNew hz2 1 (.slice a n c)
 have hz4:=hr4'.lt
 have HE4:=Z (needC [8] 1 rfl (by decide) (by decide) _ 1 rb T t4 0 b4 _ (hr4'.alloc (.cells #[.int .i64 8] 129)) (kinds_new _ [8] _ _ rfl) (by omega))
 rw [size_set] at HE4
 have HSB4:=Z (bS hsb4 1 (.slice a n c))
 have HG4:Hid (Gd b sp t4 b4 (∃ its,ItsW (w4.setCell ⟨w2.heap.size,1,none⟩ (.slice a n c)) rb w.heap.size 97 2 shC its (.slice a n c)/\its.length=n/\sp=ccr3 nm its t4)):=by
  refine hg4.map ?_
  rintro ⟨_,its,h1,h2⟩
  refine ⟨its,(h1.base hz34).setOther hsb4 (by decide) (by decide) _ _,?_,h2⟩
  obtain ⟨cs,hown,_⟩:=h1
  obtain ⟨a',c',e⟩:=own_slice1 hown
  injection e with _ e _
  exact e.symm
 clear hk4 hp4 hsb4 HL hr4 hr4' hg4 HG3
 go_wp2_with fail
 refine (U HE4).mono ?_
 rintro e w5 ⟨rfl,hr5,hk5⟩
 have hz4':w4.heap.size=(w4.setCell ⟨w2.heap.size,1,none⟩ (.slice a n c)).heap.size:=(size_set _ _ _).symm
 generalize hW4:w4.setCell ⟨w2.heap.size,1,none⟩ (.slice a n c)=W4 at *
 have HK45:=Z (((Keeps.refl rb W4).alloc (.cells #[.int .i64 8] 129)).trans hk5)
 have HK5:Hid (Keeps rb w w5):=by
  unfold Hid
  have:Keeps rb w W4:=by rw [<- hW4];exact HK4.out.setNew (by simpa using hz02) _
  exact this.trans HK45.out
 obtain ⟨t5,b5,hr5,hg5⟩:=g_need2 (k:=8) HG4.out (fun h h8=>by obtain ⟨its,_,_,h⟩:=h;rw [h,ccr3,if_neg h8]) (by decide) hr5
 have hsb5:=HK45.out.blk (by omega) HSB4.out
 have s0:=bC hsb5 0
 have s1:=bC hsb5 1
 have sf:=bF hsb5
 have hzs:=lB hsb5
 simp at s0 s1
 have HG5:Hid (Gd b sp t5 b5 (∃ its,ItsW w5 rb w.heap.size 97 2 shC its (.slice a n c)/\its.length=n/\sp=ccr4 nm its t5)):=by
  refine hg5.map ?_
  rintro ⟨⟨its,h1,h2,h3⟩,h8,rfl⟩
  exact ⟨its,h1.keeps HK45.out hz,h2,by rw [h3,ccr3,if_pos h8]⟩
 have HSB5:=Z hsb5
 have HR5:=Z hr5
 clear hr5 hk5 hg5 HE4 hsb5 hW4 HG4
 by_cases h5:5<n
 ·go_wp2_with fail
  refine (failC rb T t5 0 b5 w5 HR5.out).mono ?_
  rintro e w6 ⟨rfl,hr6,hk6⟩
  go_wp2_with fail
  go_ret
  refine ⟨HK5.out.trans hk6,_,rfl,?_⟩
  rcases HG5.out with ⟨_,its,h1,h2,h3⟩|⟨_,_,h3⟩
  ·rw [h3,ccr4,if_pos (by omega)];exact hr6
  ·rw [h3];exact hr6
 ·go_wp2_with fail
  go_ret
  refine Gd.post HK5.out HR5.out HG5.out ?_
  rintro ⟨its,h1,h2,h3⟩
  refine ⟨_,by rw [h3,ccr4,if_neg (by omega)],hz02,?_⟩
  rw [if_pos (show (Pl.st0 99 nm its .nil).kind=99 from rfl)]
  exact ⟨_,(show w5.heap[w2.heap.size]?=some (.cells #[.string ⟨nm.toArray⟩,.slice a n c] 190) by simpa using HSB5.out),h1⟩
def signs:List (List UInt8):=[[76],[67],[126],[33],[63],[105],[43],[45],[42],[58],[37],[61],[60,62],[60],[60,61],[62],[62,61],[38],[124]]
def signB (op:Nat):ByteArray:=⟨(signs.getD op []).toArray⟩
def RTree (w:World)(rb:Nat):Pl.T->Value->Prop
 | .nil,v=>v=.pointer none
 | .node _ _ a l r,v=>∃ (n:Nat) (vl vr:Value),v=.pointer (some ⟨n,0,none⟩)/\rb<n /\
  w.heap[n]?=some (.cells #[.string (signB a.op),vl,vr,.int .i64 a.kind,.int .i64 a.n,.string ⟨a.s.toArray⟩,.string ⟨a.src.toArray⟩,.string ⟨a.name.toArray⟩] 301)/\RTree w rb l vl/\RTree w rb r vr
theorem RTree.keeps {w w':World}{rb:Nat}(hk:Keeps rb w w'):∀ {t:Pl.T}{v:Value},RTree w rb t v->RTree w' rb t v
 | .nil,_,h=>h
 | .node _ _ a l r,v,⟨n,vl,vr,hv,hn,hb,hl,hr⟩=>⟨n,vl,vr,hv,hn,hk.blk (by omega) hb,RTree.keeps hk hl,RTree.keeps hk hr⟩
theorem RTree.lit {w:World}{rb n:Nat}(hn:rb<n)(kind m:Int)(s:List UInt8)(hb:w.heap[n]?=some (.cells #[.string { data:=#[76] },.pointer none,.pointer none,.int .i64 kind,.int .i64 m,.string ⟨s.toArray⟩,.string { data:=#[] },.string { data:=#[] }] 301)) :
 RTree w rb (Pl.tLit kind m s) (.pointer (some ⟨n,0,none⟩)):=⟨n,_,_,rfl,hn,hb,rfl,rfl⟩
def PostV (w:World)(rb:Nat)(s:ByteArray)(d:Nat)(spec:Option (Pl.T × List Pl.Tok))(e:Ending)(w':World):Prop :=
 Keeps rb w w'/\∃ v:Option Addr,e=.returned (.pointer v)/\match spec with
  | some (x,r)=>RTree w' rb x (.pointer v)/\RT w' rb s r d false
  | none=>∃ ts' d',d<=d'/\d'<=21/\RT w' rb s ts' d' true
theorem PostV.some_ {w w':World}{rb:Nat}{s:ByteArray}{d:Nat}{x:Pl.T}{r:List Pl.Tok}{spec:Option (Pl.T × List Pl.Tok)}{v:Option Addr}(hs:spec=some (x,r))(hk:Keeps rb w w')(ht:RTree w' rb x (.pointer v))(hr:RT w' rb s r d false) :
 PostV w rb s d spec (.returned (.pointer v)) w':=by subst hs;exact ⟨hk,v,rfl,ht,hr⟩
theorem PostV.none_ {w w':World}{rb:Nat}{s:ByteArray}{d d':Nat}{ts':List Pl.Tok}{spec:Option (Pl.T × List Pl.Tok)}{v:Option Addr}(hs:spec=none)(hk:Keeps rb w w')(h1:d<=d')(h2:d'<=21)(hr:RT w' rb s ts' d' true) :
 PostV w rb s d spec (.returned (.pointer v)) w':=by subst hs;exact ⟨hk,v,rfl,ts',d',h1,h2,hr⟩
def bsp (b:Bool)(x:Option (Pl.T × List Pl.Tok)):Option (Pl.T × List Pl.Tok):=if b=true then none else x
theorem firstN (ks:List Nat)(n:Nat)(hn:ks.length=n)(lb:Nat)(cp:Nat)(rb:Nat)(s:ByteArray)(ts:List Pl.Tok)(d:Nat)(b:Bool)(w:World)(hR:RT w rb s ts d b)(hL:strsAt w lb ks)(hne:lb≠rb)(hn1:n<=100) :
 Calls Tryz.prog 120 #[.pointer (some ⟨rb,0,none⟩),.slice (some ⟨lb,0,none⟩) n cp] w fun e w'=>e=.returned (.int .i64 (fstI ts b ks 0))/\RT w' rb s (fstTo ts b ks) d b/\Keeps rb w w':=by
 subst hn;exact firstT ks lb cp rb s ts d b w hR hL hne hn1
theorem RT.alloc {w:World}{rb:Nat}{s:ByteArray}{ts:List Pl.Tok}{d:Nat}{b:Bool}(h:RT w rb s ts d b)(o:Obj):RT (w.alloc o) rb s ts d b:=h.blk (by rw [Below.heap_alloc _ _ _ h.lt])
theorem RT.deep {w:World}{rb:Nat}{s:ByteArray}{ts:List Pl.Tok}{d:Nat}{b:Bool}(h:RT w rb s ts d b)(d':Nat)(x:Int)(hx:x=d'):RT (w.setCell ⟨rb,2,none⟩ (.int .i64 x)) rb s ts d' b:=by
 obtain ⟨p,h1,h2,h3,h4⟩:=h
 subst hx
 exact ⟨p,h1,h2,bS h3 2 _,h4⟩
theorem RT.c {w:World}{rb:Nat}{s:ByteArray}{ts:List Pl.Tok}{d:Nat}{b:Bool}(h:RT w rb s ts d b) :
 w.cell? ⟨rb,2,none⟩=some (.int .i64 d)/\w.cell? ⟨rb,3,none⟩=some (.bool b)/\(∀ o,w.frozen? ⟨rb,o,none⟩=false):=by
 obtain ⟨p,h1,h2,h3,h4⟩:=h
 obtain ⟨r0,r1,r2,r3,rf⟩:=h3.c
 exact ⟨r2,r3,rf⟩
theorem isK_true (ts:List Pl.Tok)(k:Nat):isK ts k true=false:=rfl
theorem toK_true (ts:List Pl.Tok)(k:Nat):toK ts k true=ts:=rfl
theorem RTree.name {w:World}{rb n:Nat}(hn:rb<n)(src nm:List UInt8)(hb:w.heap[n]?=some (.cells #[.string { data:=#[67] },.pointer none,.pointer none,.int .i64 0,.int .i64 0,.string { data:=#[] },.string ⟨src.toArray⟩,.string ⟨nm.toArray⟩] 301)) :
 RTree w rb (Pl.tName src nm) (.pointer (some ⟨n,0,none⟩)):=⟨n,_,_,rfl,hn,hb,rfl,rfl⟩
theorem RTree.one {w:World}{rb n:Nat}(hn:rb<n)(op:Nat)(x:Pl.T)(vx:Value)(hb:w.heap[n]?=some (.cells #[.string (signB op),vx,.pointer none,.int .i64 0,.int .i64 0,.string { data:=#[] },.string { data:=#[] },.string { data:=#[] }] 301))(hx:RTree w rb x vx) :
 RTree w rb (Pl.tOne op x) (.pointer (some ⟨n,0,none⟩)):=⟨n,_,_,rfl,hn,hb,hx,rfl⟩
theorem RTree.two {w:World}{rb n:Nat}(hn:rb<n)(op:Nat)(x y:Pl.T)(vx vy:Value)(hb:w.heap[n]?=some (.cells #[.string (signB op),vx,vy,.int .i64 0,.int .i64 0,.string { data:=#[] },.string { data:=#[] },.string { data:=#[] }] 301))(hx:RTree w rb x vx)(hy:RTree w rb y vy) :
 RTree w rb (Pl.tTwo op x y) (.pointer (some ⟨n,0,none⟩)):=⟨n,_,_,rfl,hn,hb,hx,hy⟩
theorem strs_new (w:World)(ks:List Nat)(C:Array Value)(t:TypeId)(hC:C=(ks.map (fun k=>Value.string ⟨(Pl.spell k).toArray⟩)).toArray)(hk:∀ k,k ∈ ks->4<=k/\k<51):strsAt (w.alloc (.cells C t)) w.heap.size ks:=by
 refine ⟨by simp,?_,hk⟩
 intro i h
 rw [bC (blk_new w _)]
 subst hC
 simp [h]
end Go.Proofs.YtojdpjpldokjmaaGreatDoor
