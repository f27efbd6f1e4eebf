/- The code's compiler: its own memory, one instruction put there. -/
import Derived.Test.YtojdpjpldokjmaaGreatDoorF10
import Derived.Maps.AppendAt
import Derived.Test.YtojdpjpldokjmaaGreatDoorF07
set_option maxHeartbeats 60000000
set_option maxRecDepth 100000
namespace Go.Proofs.YtojdpjpldokjmaaGreatDoor
open Go.RowKit Go.Deep
set_option linter.unusedSimpArgs false
set_option linter.unusedVariables false
def colC (c:Pl.Col):List Value:=[.string ⟨c.src.toArray⟩,.string ⟨c.name.toArray⟩,.int .i64 c.type]
def codeC (code:List Pl.Ins):List Value:=code.flatMap insC
theorem codeC_len (code:List Pl.Ins):(codeC code).length=code.length*5:=by
 induction code with
 | nil=>rfl
 | cons c cs ih =>
  show (insC c++codeC cs).length=_
  rw [List.length_append,ih];simp [insC];omega
theorem codeC_app (a b:List Pl.Ins):codeC (a++b)=codeC a++codeC b:=by simp [codeC]
theorem codeC_one (c:Pl.Ins):codeC [c]=insC c:=by simp [codeC]
def RulesAt (w:World):Prop:=∀ op:Nat,2<=op->op<=18->w.cell? ⟨9,op*3,none⟩=some (.int .i64 ((op+2:Nat):Int))/\w.cell? ⟨9,op*3+1,none⟩=some (.int .i64 (Pl.takes op))/\w.cell? ⟨9,op*3+2,none⟩=some (.int .i64 (Pl.gives op))
theorem RulesAt.keep {w w':World}(h:RulesAt w)(hk:w'.heap[9]?=w.heap[9]?):RulesAt w':=by
 intro op h2 h18
 have:=h op h2 h18
 exact ⟨(World.cell?_of_block hk).trans this.1,(World.cell?_of_block hk).trans this.2.1,(World.cell?_of_block hk).trans this.2.2⟩
structure KP (P:Nat->Prop)(w w':World):Prop where
 os:w'.os=w.os
 tape:w'.tape=w.tape
 output:w'.output=w.output
 size:w.heap.size<=w'.heap.size
 block:∀ k,P k->w'.heap[k]?=w.heap[k]?
theorem KP.refl (P:Nat->Prop)(w:World):KP P w w:=⟨rfl,rfl,rfl,Nat.le_refl _,fun _ _=>rfl⟩
theorem KP.trans {P:Nat->Prop}{a b c:World}(h:KP P a b)(k:KP P b c):KP P a c :=
 ⟨k.os.trans h.os,k.tape.trans h.tape,k.output.trans h.output,Nat.le_trans h.size k.size,fun i hi=>(k.block i hi).trans (h.block i hi)⟩
theorem KP.mono {P Q:Nat->Prop}{a b:World}(h:KP P a b)(hq:∀ k,Q k->P k):KP Q a b:=⟨h.os,h.tape,h.output,h.size,fun k hk=>h.block k (hq k hk)⟩
theorem KP.below {P:Nat->Prop}{a b:World}(h:Below a.heap.size a b)(hP:∀ k,P k->k<a.heap.size):KP P a b:=⟨h.os,h.tape,h.output,h.size,fun k hk=>h.block k (hP k hk)⟩
theorem KP.set {P:Nat->Prop}{a b:World}(h:KP P a b){p:Addr}(hp:¬ P p.block)(v:Value):KP P a (b.setCell p v) :=
 ⟨h.os,h.tape,h.output,by rw [size_set];exact h.size,fun k hk=>(Below.heap_setCell _ _ _ _ (fun e=>hp (e ▸ hk))).trans (h.block k hk)⟩
theorem KP.blk {P:Nat->Prop}{a b:World}(h:KP P a b){k:Nat}{o:Obj}(hp:P k)(hk:a.heap[k]?=some o):b.heap[k]?=some o:=(h.block k hp).trans hk
def upP (P:Nat->Prop)(a b:Nat):Nat->Prop:=fun k=>P k\/(a<=k/\k<b)
def CmpW (w:World)(cb:Nat)(P:Nat->Prop)(cols:List Pl.Col)(code:List Pl.Ins):Prop:=(∀ k,P k->k<w.heap.size/\k≠cb)/\(∀ k,k<cb->P k)/\code.length<=1048576/\9<cb/\RulesAt w /\
 ∃ cv v,w.heap[cb]?=some (.cells #[cv,v] 362)/\RowsW w cb 3 colC cols cv/\w.ownsRow (cb+1) 335 5 v code.length (codeC code)/\∀ k,v.ownBlock=some k->¬ P k
theorem CmpW.lt {w:World}{cb:Nat}{P:Nat->Prop}{cols:List Pl.Col}{code:List Pl.Ins}(h:CmpW w cb P cols code):cb<w.heap.size:=by
 obtain ⟨_,_,_,_,_,cv,v,h5,_⟩:=h;exact lB h5
theorem CmpW.below {w w':World}{cb:Nat}{P:Nat->Prop}{cols:List Pl.Col}{code:List Pl.Ins}(h:CmpW w cb P cols code)(hb:Below w.heap.size w w'):CmpW w' cb (upP P w.heap.size w'.heap.size) cols code:=by
 have hlt:=h.lt
 obtain ⟨h1,h2,h3,hr0,hr,cv,v,h5,hc,h6,h7⟩:=h
 refine ⟨fun k hk=>?_,fun k hk=>.inl (h2 k hk),h3,hr0,hr.keep (hb.block _ (by omega)),cv,v,bB hb hlt h5,hc.keep (fun k hk=>hb.block k (by omega)),⟨h6.1,?_⟩,fun k hk hp=>?_⟩
 ·rcases hk with hk|⟨ha,hk⟩
  ·have h0:=h1 k hk;have:=hb.size;exact ⟨by omega,h0.2⟩
  ·exact ⟨hk,by omega⟩
 ·rcases h6.2 with h0|⟨g,cap,cur,rfl,hgb,hg,hr⟩
  ·exact .inl h0
  ·exact .inr ⟨g,cap,cur,rfl,hgb,bB hb (lB hg) hg,hr⟩
 ·rcases hp with hp|⟨hp,_⟩
  ·exact h7 k hk hp
  ·have:=(h6.lt k hk).2;omega
theorem CmpW.less {w:World}{cb:Nat}{P Q:Nat->Prop}{cols:List Pl.Col}{code:List Pl.Ins}(h:CmpW w cb P cols code)(hq:∀ k,Q k->P k)(hc:∀ k,k<cb->Q k):CmpW w cb Q cols code:=by
 obtain ⟨h1,h2,h3,hr0,hr,cv,v,h5,hcv,h6,h7⟩:=h
 exact ⟨fun k hk=>h1 k (hq k hk),hc,h3,hr0,hr,cv,v,h5,hcv,h6,fun k hk hp=>h7 k hk (hq k hp)⟩
theorem CmpW.back {w:World}{cb a b:Nat}{P:Nat->Prop}{cols:List Pl.Col}{code:List Pl.Ins}(h:CmpW w cb (upP P a b) cols code)(hc:∀ k,k<cb->P k):CmpW w cb P cols code:=h.less (fun k hk=>.inl hk) hc
theorem Tryz.infoIns:(Tryz.prog.info? 335).map (fun i=>(i.zero,i.size,i.bytes))=some (some (.agg #[.int .i64 0,.int .i64 0,.int .i64 0,.string ⟨#[]⟩,.int .i64 0]),5,48):=by kernel_rfl
theorem step_append_at {P:Program}{ops:Array Oper}{o:Oper}{a:Act}{w:World}{K:Act->World->Prop}{Q:Exit->Act->World->Prop}{E:Prop}
 (hg:o.guard=none) (s x:Operand) (t:TypeId) (hop:o.op=Op.call { callee:=Callee.builtin Builtin.append,args:=#[s,x],argTypes:=#[t,t] })
 (base:Nat) (e:TypeId) (i:TypeInfo) (z:Value) (size bytes:Nat) (h1:P.underlying t=some (.slice e)) (h2:P.info? e=some i) (h3:i.zero=some z) (h4:i.size=size) (h5:i.bytes=bytes) (h6:z.cells.size=size) (h7:0<size)
 (v:Value) (n:Nat) (xs:List Value) (hs:a.eval s=v) (hown:w.ownsRow base e size v n xs)
 (ad:Addr) (m c:Nat) (news:List Value) (hx:a.eval x=.slice (some ad) m c) (hn:news.length=m*size) (hc:∀ j u,news[j]?=some u->w.cell? (ad.add j)=some u) (h1c:∀ u ∈ news,u.oneCell'=true)
 (b1:n+m<=maxLen) (b2:(n+m)*bytes<=140737488355328) (hb:base<=w.heap.size)
 (hK:∀ v' w',w'.ownsRow base e size v' (n+m) (xs++news)->w.grownBy w' v.ownBlock->(∀ k,v'.ownBlock=some k->v.ownBlock=some k\/w.heap.size<=k)->K (a.put o.dst v') w') :
 if Region.wanted o (yielded ops a.tmps)=true then Oper.wp P o a w K Q else E:=by
 have hw:Region.wanted o (yielded ops a.tmps)=true:=by simp [Region.wanted,hg]
 rw [if_pos hw]
 obtain ⟨v',w',hrun,r1,r2,_,r3⟩:=run_append_own_at (P:=P) w base t o.type e i z size bytes h1 h2 h3 h4 h5 h6 h7 v n xs hown ad m c news hn hc h1c b1 b2 hb
 unfold Oper.wp
 simp [execOp,hop,resolve,invoke,builtin,hs,hx,hrun,Result.andThen]
 refine hK v' w' r1 r2 (fun k hk=>?_)
 rcases r3 with r3|r3
 ·exact .inl (r3 ▸ hk)
 ·rw [r3] at hk;cases hk;exact .inr (Nat.le_refl _)
theorem cmp_push {w w1 w2:World}{cb:Nat}{P:Nat->Prop}{cols:List Pl.Col}{cv sv v':Value}{c:Pl.Ins}{code:List Pl.Ins}(h1:∀ k,P k->k<w.heap.size/\k≠cb)(h2:∀ k,k<cb->P k)(hl:code.length+1<=1048576)(hr0 : 9<cb)(hr:RulesAt w)(hbx:w.heap[cb]?=some (.cells #[cv,sv] 362))
 (hcv:RowsW w cb 3 colC cols cv) (hown:w.ownsRow (cb+1) 335 5 sv code.length (codeC code)) (ho:∀ k,sv.ownBlock=some k->¬ P k) (hk:Below w.heap.size w w1) (hown2:w2.ownsRow (cb+1) 335 5 v' (code.length+1) (codeC code++insC c)) (hg:w1.grownBy w2 sv.ownBlock) (hfr:∀ k,v'.ownBlock=some k->sv.ownBlock=some k\/w1.heap.size<=k) :
 w2.heap[cb]?=some (.cells #[cv,sv] 362)/\CmpW (w2.setCell ⟨cb,1,none⟩ v') cb P cols (code++[c])/\KP P w (w2.setCell ⟨cb,1,none⟩ v'):=by
 have hlt:=lB hbx
 have hz:=hk.size
 have hsz:=hg.size
 have hrw:∀ k,sv.ownBlock=some k->cb+1<=k:=fun k hk=>(hown.lt k hk).1
 have hkeep:∀ k,k<w.heap.size->sv.ownBlock≠some k->w2.heap[k]?=w.heap[k]?:=fun k hlt hne=>by
  rw [hg.block k (by omega) (fun e=>hne e.symm)]
  exact hk.block k (by omega)
 have hb2:w2.heap[cb]?=some (.cells #[cv,sv] 362):=by rw [hkeep cb hlt (fun e=>by have:=hrw cb e;omega)];exact hbx
 have hP2:KP P w w2:=⟨hg.os.trans hk.os,hg.tape.trans hk.tape,hg.output.trans hk.output,by omega,fun k hp=>hkeep k (h1 k hp).1 (fun e=>ho k e hp)⟩
 have hset:KP P w (w2.setCell ⟨cb,1,none⟩ v'):=hP2.set (fun hp=>(h1 cb hp).2 rfl) v'
 refine ⟨hb2,⟨fun k hp=>⟨by have:=(h1 k hp).1;rw [size_set];omega,(h1 k hp).2⟩,h2,by simpa using hl,hr0,hr.keep (hset.block _ (h2 _ hr0)),cv,v',by rw [bS hb2];rfl,hcv.keep (fun k hk=>hset.block k (h2 k hk)),?_,fun k hk hp=>?_⟩,hset⟩
 ·rw [codeC_app,codeC_one,List.length_append]
  exact own_keeps ((Keeps.refl cb w2).set 1 v') (Nat.lt_succ_self _) hown2
 ·rcases hfr k hk with h|h
  ·exact ho k h hp
  ·have:=(h1 k hp).1;omega
def insV (c:Pl.Ins):Value:=.agg #[.int .i64 c.kind,.int .i64 c.v.kind,.int .i64 c.v.n,.string ⟨c.v.s.toArray⟩,.int .i64 c.place]
theorem emitS (c:Pl.Ins)(cols:List Pl.Col)(code:List Pl.Ins)(cb:Nat)(P:Nat->Prop)(w:World)(h:CmpW w cb P cols code)(hl:code.length+1<=1048576):Calls Tryz.prog 285 #[.pointer (some ⟨cb,0,none⟩),insV c] w fun e w'=>e=.returned (.tuple #[])/\CmpW w' cb P cols (code++[c])/\KP P w w':=by
 obtain ⟨h1,h2,h3,hr0,hr,cv,sv,h4,hcv,h5,hto⟩:=h
 obtain ⟨i0,hi,hz0,hz1,hz2⟩:=info_parts Tryz.infoIns
 have hlt:=lB h4
 have b1:=bC h4 1
 simp at b1
 have hf:=bF h4 1
 have HX:=Z (fun w1 w2 v' hk hown2 hg hfr=>cmp_push (w1:=w1) (w2:=w2) (v':=v') (c:=c) h1 h2 hl hr0 hr h4 hcv h5 hto hk hown2 hg hfr)
 obtain ⟨sa,sn,sc,rfl⟩:=own_slice h5
 have H5:=Z h5
 generalize hO:Obj.cells #[.int .i64 c.kind,.int .i64 c.v.kind,.int .i64 c.v.n,.string ⟨c.v.s.toArray⟩,.int .i64 c.place] 335=O
 have HN:Hid (∀ j u,(insC c)[j]?=some u->((w.alloc O).alloc O).drew.cell? ((⟨w.heap.size+1,0,none⟩:Addr).add j)=some u):=by
  subst hO
  have:=news_at (w.alloc (.cells #[.int .i64 c.kind,.int .i64 c.v.kind,.int .i64 c.v.n,.string ⟨c.v.s.toArray⟩,.int .i64 c.place] 335)) (insC c) 335
  simp only [World.alloc,Array.size_push] at this ⊢
  exact this
 have HO:Hid (∀ u ∈ insC c,u.oneCell'=true):=by intro u hu;simp [insC] at hu;rcases hu with rfl|rfl|rfl|rfl|rfl <;> rfl
 have HM:Hid (code.length+1<=maxLen):=by unfold Hid maxLen;omega
 have HY:Hid ((code.length+1)*48<=140737488355328):=by unfold Hid;omega
 have HZ:Hid (cb+1<=((w.alloc O).alloc O).drew.heap.size):=by unfold Hid;simp [World.drew];omega
 have HB:Hid (Below w.heap.size w ((w.alloc O).alloc O).drew):=(((Below.refl w.heap.size w).alloc (Nat.le_refl _) _).alloc (by simp) _).drew
 subst hO
 clear h1 h2 h4 h5 h3 hto hr hr0 hcv
 unfold insV
 go_enter Tryz.func285,Tryz.ntmps285
 go_wp2_with fail
 go_region_law (refine step_append_at rfl (.tmp 8) (.tmp 10) 202 rfl (cb+1) 335 i0 _ 5 48 Tryz.underlying202 hi hz0 hz1 hz2 rfl (by decide) _ _ _ (by simp [Act.eval,Act.put]) ((H5.out.alloc _).alloc _) ⟨w.heap.size+1,0,none⟩ 1 1 (insC c) (by simp [Act.eval,Act.put]) rfl HN.out HO.out HM.out HY.out HZ.out ?_;intro v' w' hown' hg' hfr';obtain ⟨g',cap',rfl⟩:=own_succ hown';obtain ⟨hb2,hs2,hk2⟩:=HX.out _ _ _ HB.out hown' hg' hfr';have c2:=bC hb2 1;simp at c2;have f2:=bF hb2 1;have HS2:=Z hs2;have HK2:=Z hk2;clear hs2 hk2 hb2 hown' hg' hfr')
 all_goals go_wp2_with fail
 all_goals
  refine bodyPost_end (v:=.tuple #[]) (by simp [results,Tryz.results285,go_sem]) rfl ?_
  exact ⟨rfl,HS2.out,HK2.out⟩
theorem alikeM (a b:Int)(w:World):Calls Tryz.prog 217 #[.int .i64 a,.int .i64 b] w fun e w'=>e=.returned (.bool (Pl.alike a b))/\w'=w:=by
 unfold Pl.alike
 cases h1:a == b <;> cases h2:a == 0 <;> cases h3:b == 0
 all_goals
  go_enter Tryz.func217,Tryz.ntmps217
  go_wp2_with fail
 all_goals exact bodyPost_ret (by simp [results,Tryz.results217,go_sem]) rfl ⟨rfl,rfl⟩
def outI:Pl.Out Int->Value
 | .ok t=>.tuple #[.int .i64 t,.int .i64 0]
 | .error e=>.tuple #[.int .i64 0,.int .i64 (e:Nat)]
def finL (op:Nat)(a b:Int):List Pl.Ins:=match Pl.fit op a b with
 | .ok _=>[⟨op+2,Pl.nul,0⟩]
 | .error _=>[]
theorem finishS (op:Nat)(a b:Int)(h2:2<=op)(h18:op<=18)(cols:List Pl.Col)(code:List Pl.Ins)(cb:Nat)(P:Nat->Prop)(w:World)(h:CmpW w cb P cols code)(hl:code.length+1<=1048576) :
 Calls Tryz.prog 318 #[.pointer (some ⟨cb,0,none⟩),.int .i64 ((op:Nat):Int),.int .i64 a,.int .i64 b] w fun e w'=>e=.returned (outI (Pl.fit op a b))/\CmpW w' cb P cols (code++finL op a b)/\KP P w w':=by
 have HW:=Z h
 have HE:=Z (fun w' Q (k:CmpW w' cb Q cols code)=>emitS ⟨op+2,Pl.nul,0⟩ cols code cb Q w' k hl)
 obtain ⟨r0,r1,r2⟩:=h.2.2.2.2.1 op h2 h18
 have hcb:=h.lt
 have hg : 9<w.heap.size:=by have:=h.2.2.2.1;omega
 have HP:=Z h.1
 have HL:=Z alikeM
 have hs:op<19:=by omega
 clear h
 have hbad:(Pl.alike a (Pl.takes op) && Pl.alike b (Pl.takes op) && Pl.alike a b)=false->outI (Pl.fit op a b)=.tuple #[.int .i64 0,.int .i64 3]/\code++finL op a b=code:=by
  intro hx;unfold finL Pl.fit;rw [hx];simp [outI]
 have hgood:(Pl.alike a (Pl.takes op) && Pl.alike b (Pl.takes op) && Pl.alike a b)=true->outI (Pl.fit op a b)=.tuple #[.int .i64 (Pl.gives op),.int .i64 0]/\code++finL op a b=code++[⟨op+2,Pl.nul,0⟩]:=by
  intro hx;unfold finL Pl.fit;rw [hx];simp [outI]
 have HEnd:Hid (∀ o:Obj,CmpW (w.alloc o) cb P cols code/\KP P w (w.alloc o)):=fun o=>⟨(HW.out.below ((Below.refl w.heap.size w).alloc (Nat.le_refl _) _)).back HW.out.2.1,KP.below ((Below.refl w.heap.size w).alloc (Nat.le_refl _) _) (fun k hk=>(HP.out k hk).1)⟩
 generalize outI (Pl.fit op a b)=out at *
 generalize code++finL op a b=code2 at *
 cases h1:Pl.alike a (Pl.takes op) with
 | false =>
  obtain ⟨rfl,rfl⟩:=hbad (by rw [h1];rfl)
  clear hbad hgood
  go_enter Tryz.func318,Tryz.ntmps318
  go_wp2_with (go_at_call 217;refine (U HL _ _ _).mono ?_;rintro e w1 ⟨rfl,rfl⟩)
  all_goals exact bodyPost_ret (by simp [results,Tryz.results318,go_sem]) rfl ⟨rfl,HEnd.out _⟩
 | true =>
  cases h2:Pl.alike b (Pl.takes op) with
  | false =>
   obtain ⟨rfl,rfl⟩:=hbad (by rw [h1,h2];rfl)
   clear hbad hgood
   go_enter Tryz.func318,Tryz.ntmps318
   go_wp2_with (go_at_call 217;refine (U HL _ _ _).mono ?_;rintro e w1 ⟨rfl,rfl⟩)
   all_goals exact bodyPost_ret (by simp [results,Tryz.results318,go_sem]) rfl ⟨rfl,HEnd.out _⟩
  | true =>
   cases h3:Pl.alike a b with
   | false =>
    obtain ⟨rfl,rfl⟩:=hbad (by rw [h1,h2,h3];rfl)
    clear hbad hgood
    go_enter Tryz.func318,Tryz.ntmps318
    go_wp2_with (go_at_call 217;refine (U HL _ _ _).mono ?_;rintro e w1 ⟨rfl,rfl⟩)
    all_goals exact bodyPost_ret (by simp [results,Tryz.results318,go_sem]) rfl ⟨rfl,HEnd.out _⟩
   | true =>
    obtain ⟨rfl,rfl⟩:=hgood (by rw [h1,h2,h3];rfl)
    clear hbad hgood HEnd
    have e2:(((op+2:Nat)):Int)=(op:Int)+2:=by omega
    unfold insV at HE
    simp only [e2] at HE
    clear e2
    go_enter Tryz.func318,Tryz.ntmps318
    go_wp2_with (go_at_call 217;refine (U HL _ _ _).mono ?_;rintro e w1 ⟨rfl,rfl⟩)
    refine (U HE _ _ (HW.out.below ((Below.refl w.heap.size w).alloc (Nat.le_refl _) _))).mono ?_
    rintro e w1 ⟨rfl,hc1,hk1⟩
    have HC1:=Z (hc1.back (HW.out.2.1))
    have HK1:=Z ((KP.below ((Below.refl w.heap.size w).alloc (Nat.le_refl _) _) (fun k hk=>(HP.out k hk).1)).trans (hk1.mono (fun k hk=>.inl hk)))
    have c1:=fun j=>bC (hk1.blk (.inr ⟨Nat.le_refl _,by simp⟩) (blk_new w _)) j
    have hz1:w.heap.size<w1.heap.size:=by have:=hk1.size;simp at this;omega
    clear hc1 hk1
    go_wp2_with fail
    all_goals exact bodyPost_ret (by simp [results,Tryz.results318,go_sem]) rfl ⟨rfl,HC1.out,HK1.out⟩
end Go.Proofs.YtojdpjpldokjmaaGreatDoor
namespace Go.Proofs.YtojdpjpldokjmaaGreatDoor.Pl
theorem fit_err {op:Nat}{a b:Int}{e:Nat}(h:fit op a b=.error e):e=3:=by
 unfold fit at h
 split at h <;> cases h
 rfl
theorem tc_err {cols:List Col}:∀ {t:T}{e:Nat},tc cols t=.error e->e=2\/e=3
 | .nil,e,h=>by simp [tc] at h
 | .node _ _ p l r,e,h=>by
  unfold tc at h
  split at h
  ·cases h
  split at h
  ·split at h
   ·cases h
   ·cases h;exact .inl rfl
  ·cases hl:tc cols l with
   | error e'=>rw [hl] at h;cases h;exact tc_err hl
   | ok a =>
    rw [hl] at h
    simp only at h
    split at h
    ·exact .inr (fit_err h)
    ·cases hr:tc cols r with
     | error e'=>rw [hr] at h;cases h;exact tc_err hr
     | ok b=>rw [hr] at h;exact .inr (fit_err h)
end Go.Proofs.YtojdpjpldokjmaaGreatDoor.Pl
namespace Go.Proofs.YtojdpjpldokjmaaGreatDoor
open Go.RowKit Go.Deep
set_option linter.unusedSimpArgs false
set_option linter.unusedVariables false
def TrW (w:World)(hi:Nat):Pl.T->Value->Prop
 | .nil,v=>v=.pointer none
 | .node _ _ a l r,v=>∃ (n:Nat) (vl vr:Value),v=.pointer (some ⟨n,0,none⟩)/\n<hi /\
  w.heap[n]?=some (.cells #[.int .i64 a.op,.int .i64 a.kind,.int .i64 a.n,.string ⟨a.s.toArray⟩,.string ⟨a.src.toArray⟩,.string ⟨a.name.toArray⟩,vl,vr] 269)/\TrW w hi l vl/\TrW w hi r vr
theorem TrW.keep {w w':World}{hi:Nat}(hk:∀ k,k<hi->w'.heap[k]?=w.heap[k]?):∀ {t:Pl.T}{v:Value},TrW w hi t v->TrW w' hi t v
 | .nil,_,h=>h
 | .node _ _ a l r,v,⟨n,vl,vr,hv,hn,hb,hl,hr⟩=>⟨n,vl,vr,hv,hn,(hk n hn).trans hb,hl.keep hk,hr.keep hk⟩
theorem TrW.more {w:World}{hi hi':Nat}(hk:hi<=hi'):∀ {t:Pl.T}{v:Value},TrW w hi t v->TrW w hi' t v
 | .nil,_,h=>h
 | .node _ _ a l r,v,⟨n,vl,vr,hv,hn,hb,hl,hr⟩=>⟨n,vl,vr,hv,by omega,hb,hl.more hk,hr.more hk⟩
theorem CTree.tr {w:World}{rb hi:Nat}(hs:w.heap.size<=hi):∀ {t:Pl.T}{v:Value},CTree w rb t v->TrW w hi t v
 | .nil,_,h=>h
 | .node _ _ a l r,v,⟨n,vl,vr,hv,hn,hb,hl,hr⟩=>⟨n,vl,vr,hv,by have:=lB hb;omega,hb,hl.tr hs,hr.tr hs⟩
theorem KP.tr {P:Nat->Prop}{w w':World}{hi:Nat}{t:Pl.T}{v:Value}(h:KP P w w')(hp:∀ k,k<hi->P k)(ht:TrW w hi t v):TrW w' hi t v:=ht.keep (fun k hk=>h.block k (hp k hk))
def PostCV (w:World)(cb:Nat)(P:Nat->Prop)(cols:List Pl.Col)(code:List Pl.Ins)(t:Pl.T)(e:Ending)(w':World):Prop :=
 e=.returned (outI (Pl.tc cols t))/\KP P w w'/\∃ code',CmpW w' cb P cols code'/\code'.length<=code.length+2*Pl.sz t/\∀ ty,Pl.tc cols t=.ok ty->code'=code++Pl.gen cols code.length t
def ValS (f:FuncId)(t:Pl.T):Prop:=∀ cols code cb P w v,cols.length<=1000->CmpW w cb P cols code->TrW w cb t v->code.length+2*Pl.sz t<=1048576->Calls Tryz.prog f #[.pointer (some ⟨cb,0,none⟩),v] w (PostCV w cb P cols code t)
theorem finL_len (op:Nat)(a b:Int):(finL op a b).length<=1:=by unfold finL;split <;> simp
theorem cOneS {a1 a2:Nat}{p:Pl.Pay}{l r:Pl.T}(h2:2<=p.op)(h5:p.op<=5)(IH:ValS 251 l):ValS 288 (.node a1 a2 p l r):=by
 intro cols code cb P w v hcl hc ht hl
 obtain ⟨n,vl,vr,rfl,hn,hb,hL,hR⟩:=ht
 have HC:=Z hc
 have hcb:=hc.lt
 have hnz:n<w.heap.size:=by omega
 have c0:=bC hb 0
 have c6:=bC hb 6
 simp at c0 c6
 rw [Pl.sz] at hl
 have HIH:=Z (IH cols code cb P w vl hcl hc hL (by omega))
 have HB:=Z hb
 have HP:=Z hc.2.1
 have HS:Hid (Pl.sz (.node a1 a2 p l r)=Pl.sz l+Pl.sz r+1):=by unfold Hid;rw [Pl.sz]
 have HT:Hid (Pl.tc cols (.node a1 a2 p l r)=match Pl.tc cols l with|.error e=>.error e|.ok a=>Pl.fit p.op a a):=by
  unfold Hid
  rw [Pl.tc,if_neg (by omega),if_neg (by omega)]
  cases Pl.tc cols l with
  | error e=>rfl
  | ok a=>simp only;rw [if_pos h5]
 have HG:Hid (Pl.gen cols code.length (.node a1 a2 p l r)=Pl.gen cols code.length l++[⟨p.op+2,Pl.nul,0⟩]):=by
  unfold Hid
  rw [Pl.gen,if_neg (by omega),if_neg (by omega),if_pos h5]
 clear hc hb IH
 cases htl:Pl.tc cols l with
 | error er =>
  have her:((er:Int) != 0)=true:=by have:=Pl.tc_err htl;simp;omega
  rw [htl] at HT
  unfold PostCV at HIH ⊢
  rw [htl] at HIH
  rw [HT.out]
  simp only [outI] at HIH ⊢
  go_enter Tryz.func288,Tryz.ntmps288
  go_wp2_with fail
  refine (U HIH).mono ?_
  rintro e w1 ⟨rfl,hk1,code',hc1,hlen,_⟩
  have HK1:=Z hk1
  have HC1:=Z hc1
  clear hk1 hc1
  go_wp2_with fail
  exact bodyPost_ret (by simp [results,Tryz.results288,go_sem]) rfl ⟨rfl,HK1.out,code',HC1.out,by rw [HS.out];omega,fun ty h=>by cases h⟩
 | ok a =>
  rw [htl] at HT
  unfold PostCV at HIH ⊢
  rw [htl] at HIH
  rw [HT.out]
  simp only [outI] at HIH
  have HF:=Z (fun w' code' (k:CmpW w' cb P cols code') (hl':code'.length+1<=1048576)=>finishS p.op a a h2 (by omega) cols code' cb P w' k hl')
  obtain ⟨x,y,hxy⟩:∃ x y:Int,outI (Pl.fit p.op a a)=.tuple #[.int .i64 x,.int .i64 y]:=by
   cases Pl.fit p.op a a with
   | ok t=>exact ⟨_,_,rfl⟩
   | error e=>exact ⟨_,_,rfl⟩
  simp only
  rw [hxy] at HF ⊢
  clear hxy
  go_enter Tryz.func288,Tryz.ntmps288
  go_wp2_with fail
  refine (U HIH).mono ?_
  rintro e w1 ⟨rfl,hk1,code',hc1,hlen,hcode⟩
  have HK1:=Z hk1
  have HC1:=Z hc1
  have HCo:=Z (hcode a rfl)
  have hb1:=hk1.blk (HP.out n hn) HB.out
  have d0:=bC hb1 0
  simp at d0
  have hz1:=lB hb1
  have HF1:=Z (U HF w1 code' hc1 (by omega))
  clear hk1 hc1 hcode hb1 HF
  go_wp2_with fail
  refine (U HF1).mono ?_
  rintro e w2 ⟨rfl,hc2,hk2⟩
  have HK2:=Z (HK1.out.trans hk2)
  have HC2:=Z hc2
  clear hk2 hc2
  go_wp2_with fail
  refine bodyPost_ret (by simp [results,Tryz.results288,go_sem]) rfl ⟨rfl,HK2.out,_,HC2.out,?_,fun ty h=>?_⟩
  ·have:=finL_len p.op a a
   rw [HS.out,List.length_append];omega
  ·rw [HG.out,HCo.out]
   unfold finL
   rw [h]
   simp
theorem outI_form (x:Pl.Out Int):∃ a b:Int,outI x=.tuple #[.int .i64 a,.int .i64 b]:=by
 cases x with
 | ok t=>exact ⟨_,_,rfl⟩
 | error e=>exact ⟨_,_,rfl⟩
theorem cTwoS {a1 a2:Nat}{p:Pl.Pay}{l r:Pl.T}(h6:6<=p.op)(h16:p.op<=16)(IHl:ValS 251 l)(IHr:ValS 251 r):ValS 289 (.node a1 a2 p l r):=by
 intro cols code cb P w v hcl hc ht hl
 obtain ⟨n,vl,vr,rfl,hn,hb,hL,hR⟩:=ht
 have hcb:=hc.lt
 have hnz:n<w.heap.size:=by omega
 have c0:=bC hb 0
 have c6:=bC hb 6
 simp at c0 c6
 rw [Pl.sz] at hl
 have HIH:=Z (IHl cols code cb P w vl hcl hc hL (by omega))
 have HIR:=Z (fun code' w' hc' ht' hl'=>IHr cols code' cb P w' vr hcl hc' ht' hl')
 have HB:=Z hb
 have HP:=Z hc.2.1
 have HRt:=Z hR
 have HS:Hid (Pl.sz (.node a1 a2 p l r)=Pl.sz l+Pl.sz r+1):=by unfold Hid;rw [Pl.sz]
 have HT:Hid (Pl.tc cols (.node a1 a2 p l r)=match Pl.tc cols l with|.error e=>.error e|.ok a=>match Pl.tc cols r with|.error e=>.error e|.ok b=>Pl.fit p.op a b):=by
  unfold Hid
  rw [Pl.tc,if_neg (by omega),if_neg (by omega)]
  cases Pl.tc cols l with
  | error e=>rfl
  | ok a=>simp only;rw [if_neg (by omega)];cases Pl.tc cols r <;> rfl
 have HG:Hid (Pl.gen cols code.length (.node a1 a2 p l r)=Pl.gen cols code.length l++(Pl.gen cols (code.length+(Pl.gen cols code.length l).length) r++[⟨p.op+2,Pl.nul,0⟩])):=by
  unfold Hid
  rw [Pl.gen,if_neg (by omega),if_neg (by omega),if_neg (by omega),if_pos h16]
 clear hc hb IHl IHr hL hR
 cases htl:Pl.tc cols l with
 | error er =>
  have her:((er:Int) != 0)=true:=by have:=Pl.tc_err htl;simp;omega
  rw [htl] at HT
  unfold PostCV at HIH ⊢
  rw [htl] at HIH
  rw [HT.out]
  simp only [outI] at HIH ⊢
  go_enter Tryz.func289,Tryz.ntmps289
  go_wp2_with fail
  refine (U HIH).mono ?_
  rintro e w1 ⟨rfl,hk1,code',hc1,hlen,_⟩
  have HK1:=Z hk1
  have HC1:=Z hc1
  clear hk1 hc1
  go_wp2_with fail
  exact bodyPost_ret (by simp [results,Tryz.results289,go_sem]) rfl ⟨rfl,HK1.out,code',HC1.out,by rw [HS.out];omega,fun ty h=>by cases h⟩
 | ok a =>
  rw [htl] at HT
  unfold PostCV at HIH HIR ⊢
  rw [htl] at HIH
  rw [HT.out]
  simp only [outI] at HIH
  cases htr:Pl.tc cols r with
  | error er =>
   have her:((er:Int) != 0)=true:=by have:=Pl.tc_err htr;simp;omega
   rw [htr] at HIR
   simp only [outI] at HIR ⊢
   go_enter Tryz.func289,Tryz.ntmps289
   go_wp2_with fail
   refine (U HIH).mono ?_
   rintro e w1 ⟨rfl,hk1,code',hc1,hlen,hcode⟩
   have HK1:=Z hk1
   have hb1:=hk1.blk (HP.out n hn) HB.out
   have d7:=bC hb1 7
   simp at d7
   have hz1:=lB hb1
   have HR1:=Z (U HIR code' w1 hc1 (hk1.tr HP.out HRt.out) (by omega))
   clear hk1 hc1 hcode hb1 HIR
   go_wp2_with fail
   refine (U HR1).mono ?_
   rintro e w2 ⟨rfl,hk2,code2,hc2,hlen2,_⟩
   have HK2:=Z (HK1.out.trans hk2)
   have HC2:=Z hc2
   clear hk2 hc2
   go_wp2_with fail
   exact bodyPost_ret (by simp [results,Tryz.results289,go_sem]) rfl ⟨rfl,HK2.out,code2,HC2.out,by rw [HS.out];omega,fun ty h=>by cases h⟩
  | ok b =>
   rw [htr] at HIR
   simp only [outI] at HIR
   have HF:=Z (fun w' code' (k:CmpW w' cb P cols code') (hl':code'.length+1<=1048576)=>finishS p.op a b (by omega) (by omega) cols code' cb P w' k hl')
   obtain ⟨x,y,hxy⟩:=outI_form (Pl.fit p.op a b)
   simp only
   rw [hxy] at HF ⊢
   clear hxy
   go_enter Tryz.func289,Tryz.ntmps289
   go_wp2_with fail
   refine (U HIH).mono ?_
   rintro e w1 ⟨rfl,hk1,code',hc1,hlen,hcode⟩
   have HK1:=Z hk1
   have HCo:=Z (hcode a rfl)
   have hb1:=hk1.blk (HP.out n hn) HB.out
   have d7:=bC hb1 7
   simp at d7
   have hz1:=lB hb1
   have HB1:=Z hb1
   have HR1:=Z (U HIR code' w1 hc1 (hk1.tr HP.out HRt.out) (by omega))
   clear hk1 hc1 hcode hb1 HIR
   go_wp2_with fail
   refine (U HR1).mono ?_
   rintro e w2 ⟨rfl,hk2,code2,hc2,hlen2,hcode2⟩
   have HK2:=Z (HK1.out.trans hk2)
   have HCo2:=Z (hcode2 b rfl)
   have hb2:=hk2.blk (HP.out n hn) HB1.out
   have e0:=bC hb2 0
   simp at e0
   have hz2:=lB hb2
   have HF1:=Z (U HF w2 code2 hc2 (by omega))
   clear hk2 hc2 hcode2 hb2 HF
   go_wp2_with fail
   refine (U HF1).mono ?_
   rintro e w3 ⟨rfl,hc3,hk3⟩
   have HK3:=Z (HK2.out.trans hk3)
   have HC3:=Z hc3
   clear hk3 hc3
   go_wp2_with fail
   refine bodyPost_ret (by simp [results,Tryz.results289,go_sem]) rfl ⟨rfl,HK3.out,_,HC3.out,?_,fun ty h=>?_⟩
   ·have:=finL_len p.op a b
    rw [HS.out,List.length_append];omega
   ·rw [HG.out,HCo2.out,HCo.out]
    unfold finL
    rw [h]
    simp
end Go.Proofs.YtojdpjpldokjmaaGreatDoor
