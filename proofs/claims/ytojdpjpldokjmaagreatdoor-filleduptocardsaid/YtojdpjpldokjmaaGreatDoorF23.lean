/- The law's pairs in memory: databases beside one another. -/
import Derived.Test.YtojdpjpldokjmaaGreatDoorF18
import Derived.Test.YtojdpjpldokjmaaGreatDoorF20
import Derived.Test.YtojdpjpldokjmaaGreatDoorF22
set_option maxHeartbeats 60000000
set_option maxRecDepth 100000
namespace Go.Proofs.YtojdpjpldokjmaaGreatDoor
open Go.RowKit Go.Deep
set_option linter.unusedSimpArgs false
set_option linter.unusedVariables false
def Gl (k:Nat):Prop:=k = 9\/k = 1\/k = 8\/k = 5\/k = 2\/k = 0
structure Pr where
 pb:Nat
 b:Nat
 rb:Nat
 M:Nat->Prop
 R:Nat->Prop
 lay:List Lay
 rlay:List Lay
 D:Pl.DB
 E:Pl.DB
structure PrW (w:World)(p:Pr):Prop where
 box:w.heap[p.pb]?=some (.cells #[.pointer (some ⟨p.b,0,none⟩),.pointer (some ⟨p.rb,0,none⟩)] 70)
 live:Live w p.M p.b p.lay p.D
 sv:SvG w p.M
 ref:RDbW w p.R p.rb p.rlay p.E
def prPtr (p:Pr):Value:=.pointer (some ⟨p.pb,0,none⟩)
theorem Live.keepG {w w':World}{M:Nat->Prop}{b:Nat}{lay:List Lay}{D:Pl.DB}(h:Live w M b lay D)(hs:w.heap.size<=w'.heap.size)(hk:∀ k,M k\/Gl k->w'.heap[k]?=w.heap[k]?):Live w' M b lay D :=
 ⟨⟨h.ex.db.keep hs (fun k hm=>hk k (.inl hm)),h.ex.rules.keep (hk _ (.inr (.inl rfl))),h.ex.glob.1,Nat.lt_of_lt_of_le h.ex.glob.2 hs⟩,h.spell.same (hk _ (.inr (.inr (.inl rfl)))),h.err.same (hk _ (.inr (.inr (.inr (.inl rfl))))),h.gs,h.ge,h.pow.keep (hk _ (.inr (.inr (.inr (.inr (.inl rfl)))))),h.gp⟩
theorem SvG.keepG {w w':World}{M:Nat->Prop}(h:SvG w M)(hk:∀ k,Gl k->w'.heap[k]?=w.heap[k]?):SvG w' M :=
 ⟨h.g.keep (fun k hk'=>hk k (by
  rcases hk' with e|e|e
  ·exact .inr (.inr (.inr (.inl e)))
  ·exact .inr (.inr (.inr (.inr (.inl e))))
  ·exact .inr (.inr (.inr (.inr (.inr e)))))),h.not⟩
theorem PrW.keep {w w':World}{p:Pr}(h:PrW w p)(hs:w.heap.size<=w'.heap.size)(hk:∀ k,p.M k\/p.R k\/Gl k\/k=p.pb->w'.heap[k]?=w.heap[k]?):PrW w' p :=
 ⟨(hk _ (.inr (.inr (.inr rfl)))).trans h.box,h.live.keepG hs (fun k hk'=>hk k (hk'.elim (fun h=>.inl h) (fun h=>.inr (.inr (.inl h))))),h.sv.keepG (fun k hg=>hk k (.inr (.inr (.inl hg)))),h.ref.keep hs (fun k hr=>hk k (.inr (.inl hr)))⟩
structure LawW (B0:Nat)(w0 w:World)(col:Nat->Int)(F:Nat->Prop)(wb came:Nat)(psv ov o3:Value)(n:Nat)(gs:List Value)(ps:List Pr):Prop where
 bel:Below B0 w0 w
 hB:B0<=w.heap.size
 cO:∀ k,k<B0->col k=-5\/col k=-1
 law:LawM w F wb came psv ov o3 n gs
 len:gs.length=3*n
 row:w.ownsRow 0 71 1 psv ps.length (ps.map prPtr)
 each:∀ (i:Nat) (p:Pr),ps[i]?=some p->PrW w p
 cG:∀ k,Gl k->col k=-1/\k<w.heap.size
 cL:∀ k,LSet wb F ov o3 k->col k=-2
 cP:∀ k,psv.ownBlock=some k->col k=-3
 cB:∀ (i:Nat) (p:Pr),ps[i]?=some p->col p.pb=-4
 cM:∀ (i:Nat) (p:Pr),ps[i]?=some p->∀ k,p.M k->col k=2*(i:Int)
 cR:∀ (i:Nat) (p:Pr),ps[i]?=some p->∀ k,p.R k->col k=2*(i:Int)+1
theorem recol {w w':World}{col:Nat->Int}{S S':Nat->Prop}{c:Int}(hs:Stp w S w' S')(hc:∀ k,S k->col k=c):∃ col':Nat->Int,(∀ k,k<w.heap.size->col' k=col k)/\(∀ k,S' k->col' k=c)/\(KP (fun k=>k<w.heap.size/\col k≠c) w w'):=by
 refine ⟨fun k=>if k<w.heap.size then col k else c,fun k hk=>if_pos hk,fun k hk=>?_,⟨hs.keep.os,hs.keep.tape,hs.keep.output,hs.keep.size,fun k hk=>hs.keep.block k ⟨hk.1,fun h=>hk.2 (hc k h)⟩⟩⟩
 show (if k<w.heap.size then col k else c)=c
 split
 ·rcases hs.new k hk with h|h
  ·exact hc k h
  ·omega
 ·rfl
theorem PrW.lt {w:World}{p:Pr}(h:PrW w p):p.pb<w.heap.size/\(∀ k,p.M k->k<w.heap.size)/\∀ k,p.R k->k<w.heap.size:=⟨lB h.box,h.live.ex.db.lt,h.ref.lt⟩
theorem LawW.rest {B0:Nat}{w0 w w':World}{col col':Nat->Int}{F:Nat->Prop}{wb came:Nat}{psv ov o3:Value}{n:Nat}{gs:List Value}{ps:List Pr}(h:LawW B0 w0 w col F wb came psv ov o3 n gs ps){c:Int}(hcol:∀ k,k<w.heap.size->col' k=col k)(hkp:KP (fun k=>k<w.heap.size/\col k≠c) w w') :
 (c≠-2->LawM w' F wb came psv ov o3 n gs/\∀ k,LSet wb F ov o3 k->col' k=-2)/\(c≠-3->w'.ownsRow 0 71 1 psv ps.length (ps.map prPtr)/\∀ k,psv.ownBlock=some k->col' k=-3)/\(∀ k,Gl k->col' k=-1/\k<w'.heap.size) /\
 (∀ (i:Nat) (p:Pr),ps[i]?=some p->col' p.pb=-4)/\(∀ (i:Nat) (p:Pr),ps[i]?=some p->∀ k,p.M k->col' k=2*(i:Int))/\(∀ (i:Nat) (p:Pr),ps[i]?=some p->∀ k,p.R k->col' k=2*(i:Int)+1) /\
 (c≠-1->c≠-4->∀ (i:Nat) (p:Pr),ps[i]?=some p->c≠2*(i:Int)->c≠2*(i:Int)+1->PrW w' p)/\(c≠-5->c≠-1->Below B0 w0 w'/\B0<=w'.heap.size/\∀ k,k<B0->col' k=-5\/col' k=-1):=by
 have hs:=hkp.size
 have hk:∀ k,k<w.heap.size->col k≠c->w'.heap[k]?=w.heap[k]?:=fun k h1 h2=>hkp.block k ⟨h1,h2⟩
 refine ⟨fun hc=>⟨h.law.keep hs (fun k hk'=>hk k (h.law.lt hk') (by rw [h.cL k hk'];omega)),fun k hk'=>by rw [hcol k (h.law.lt hk')];exact h.cL k hk'⟩,fun hc=>⟨own_at h.row (fun k hk'=>hk k (h.row.lt k hk').2 (by rw [h.cP k hk'];omega)),fun k hk'=>by rw [hcol k (h.row.lt k hk').2];exact h.cP k hk'⟩,fun k hg=>⟨by rw [hcol k (h.cG k hg).2];exact (h.cG k hg).1,Nat.lt_of_lt_of_le (h.cG k hg).2 hs⟩,fun i p hp=>by rw [hcol _ (h.each i p hp).lt.1];exact h.cB i p hp,fun i p hp k hm=>by rw [hcol _ ((h.each i p hp).lt.2.1 k hm)];exact h.cM i p hp k hm,fun i p hp k hm=>by rw [hcol _ ((h.each i p hp).lt.2.2 k hm)];exact h.cR i p hp k hm,?_,fun h5 h1=>⟨⟨hkp.os.trans h.bel.os,hkp.tape.trans h.bel.tape,hkp.output.trans h.bel.output,Nat.le_trans h.bel.size hs,fun k hk'=>(hk k (Nat.lt_of_lt_of_le hk' h.hB) (by rcases h.cO k hk' with e|e <;> rw [e] <;> omega)).trans (h.bel.block k hk')⟩,Nat.le_trans h.hB hs,fun k hk'=>by rw [hcol k (Nat.lt_of_lt_of_le hk' h.hB)];exact h.cO k hk'⟩⟩
 intro h1 h4 i p hp hM hR
 have hP:=h.each i p hp
 refine hP.keep hs (fun k hk'=>?_)
 rcases hk' with hk'|hk'|hk'|rfl
 ·exact hk k (hP.lt.2.1 k hk') (by rw [h.cM i p hp k hk'];omega)
 ·exact hk k (hP.lt.2.2 k hk') (by rw [h.cR i p hp k hk'];omega)
 ·exact hk k (h.cG k hk').2 (by rw [(h.cG k hk').1];omega)
 ·exact hk _ hP.lt.1 (by rw [h.cB i p hp];omega)
theorem LawW.stepL {B0:Nat}{w0 w w':World}{col:Nat->Int}{F F':Nat->Prop}{wb came came':Nat}{psv ov o3 ov' o3':Value}{n n':Nat}{gs gs':List Value}{ps:List Pr}(h:LawW B0 w0 w col F wb came psv ov o3 n gs ps)(hl:LawM w' F' wb came' psv ov' o3' n' gs')(hg:gs'.length=3*n')(hs:Stp w (LSet wb F ov o3) w' (LSet wb F' ov' o3')):∃ col',LawW B0 w0 w' col' F' wb came' psv ov' o3' n' gs' ps:=by
 obtain ⟨col',h1,h2,h3⟩:=recol hs h.cL
 obtain ⟨_,r2,r3,r4,r5,r6,r7,r8⟩:=h.rest h1 h3
 obtain ⟨o1,o2,o3x⟩:=r8 (by omega) (by omega)
 exact ⟨col',o1,o2,o3x,hl,hg,(r2 (by omega)).1,fun i p hp=>r7 (by omega) (by omega) i p hp (by omega) (by omega),r3,h2,(r2 (by omega)).2,r4,r5,r6⟩
theorem set_at {ps:List Pr}{i j:Nat}{p q x:Pr}(hp:ps[i]?=some p)(h:(ps.set i x)[j]?=some q):(j=i/\q=x)\/(j≠i/\ps[j]?=some q):=by
 rw [List.getElem?_set] at h
 split at h
 ·rename_i e
  subst e
  rw [if_pos (getElem?_lt hp)] at h
  cases h
  exact .inl ⟨rfl,rfl⟩
 ·rename_i e
  exact .inr ⟨fun e'=>e e'.symm,h⟩
theorem set_ptr {ps:List Pr}{i:Nat}{p x:Pr}(hp:ps[i]?=some p)(hx:x.pb=p.pb):(ps.set i x).map prPtr=ps.map prPtr:=by
 apply List.ext_getElem?
 intro j
 rw [List.getElem?_map,List.getElem?_map,List.getElem?_set]
 split
 ·rename_i e
  subst e
  rw [if_pos (getElem?_lt hp),hp]
  simp [prPtr,hx]
 ·rfl
theorem LawW.stepM {B0:Nat}{w0 w w':World}{col:Nat->Int}{F:Nat->Prop}{wb came:Nat}{psv ov o3:Value}{n:Nat}{gs:List Value}{ps:List Pr}(h:LawW B0 w0 w col F wb came psv ov o3 n gs ps){i:Nat}{p:Pr}(hp:ps[i]?=some p){M':Nat->Prop}{lay':List Lay}{D':Pl.DB}(hs:Stp w p.M w' M')(hl:Live w' M' p.b lay' D'):∃ col',LawW B0 w0 w' col' F wb came psv ov o3 n gs (ps.set i ⟨p.pb,p.b,p.rb,M',p.R,lay',p.rlay,D',p.E⟩):=by
 obtain ⟨col',h1,h2,h3⟩:=recol hs (h.cM i p hp)
 obtain ⟨r1,r2,r3,r4,r5,r6,r7,r8⟩:=h.rest h1 h3
 have hP:=h.each i p hp
 obtain ⟨o1,o2,o3x⟩:=r8 (by omega) (by omega)
 refine ⟨col',o1,o2,o3x,(r1 (by omega)).1,h.len,(by rw [List.length_set,set_ptr (x:=⟨p.pb,p.b,p.rb,M',p.R,lay',p.rlay,D',p.E⟩) hp rfl];exact (r2 (by omega)).1),fun j q hq=>?_,r3,(r1 (by omega)).2,(r2 (by omega)).2,fun j q hq=>?_,fun j q hq k hk=>?_,fun j q hq k hk=>?_⟩
 ·rcases set_at hp hq with ⟨rfl,rfl⟩|⟨hj,hq'⟩
  ·exact ⟨(h3.block _ ⟨hP.lt.1,by rw [h.cB _ p hp];omega⟩).trans hP.box,hl,hP.sv.step hs,hP.ref.keep hs.keep.size (fun k hr=>h3.block k ⟨hP.lt.2.2 k hr,by rw [h.cR _ p hp k hr];omega⟩)⟩
  ·exact r7 (by omega) (by omega) j q hq' (by omega) (by omega)
 ·rcases set_at hp hq with ⟨rfl,rfl⟩|⟨hj,hq'⟩
  ·exact r4 _ p hp
  ·exact r4 j q hq'
 ·rcases set_at hp hq with ⟨rfl,rfl⟩|⟨hj,hq'⟩
  ·exact h2 k hk
  ·exact r5 j q hq' k hk
 ·rcases set_at hp hq with ⟨rfl,rfl⟩|⟨hj,hq'⟩
  ·exact r6 _ p hp k hk
  ·exact r6 j q hq' k hk
theorem LawW.stepR {B0:Nat}{w0 w w':World}{col:Nat->Int}{F:Nat->Prop}{wb came:Nat}{psv ov o3:Value}{n:Nat}{gs:List Value}{ps:List Pr}(h:LawW B0 w0 w col F wb came psv ov o3 n gs ps){i:Nat}{p:Pr}(hp:ps[i]?=some p){R':Nat->Prop}{lay':List Lay}{E':Pl.DB}(hs:Stp w p.R w' R')(hl:RDbW w' R' p.rb lay' E'):∃ col',LawW B0 w0 w' col' F wb came psv ov o3 n gs (ps.set i ⟨p.pb,p.b,p.rb,p.M,R',p.lay,lay',p.D,E'⟩):=by
 obtain ⟨col',h1,h2,h3⟩:=recol hs (h.cR i p hp)
 obtain ⟨r1,r2,r3,r4,r5,r6,r7,r8⟩:=h.rest h1 h3
 have hP:=h.each i p hp
 have hG:∀ k,Gl k->w'.heap[k]?=w.heap[k]?:=fun k hg=>h3.block k ⟨(h.cG k hg).2,by rw [(h.cG k hg).1];omega⟩
 obtain ⟨o1,o2,o3x⟩:=r8 (by omega) (by omega)
 refine ⟨col',o1,o2,o3x,(r1 (by omega)).1,h.len,(by rw [List.length_set,set_ptr (x:=⟨p.pb,p.b,p.rb,p.M,R',p.lay,lay',p.D,E'⟩) hp rfl];exact (r2 (by omega)).1),fun j q hq=>?_,r3,(r1 (by omega)).2,(r2 (by omega)).2,fun j q hq=>?_,fun j q hq k hk=>?_,fun j q hq k hk=>?_⟩
 ·rcases set_at hp hq with ⟨rfl,rfl⟩|⟨hj,hq'⟩
  ·exact ⟨(h3.block _ ⟨hP.lt.1,by rw [h.cB _ p hp];omega⟩).trans hP.box,hP.live.keepG hs.keep.size (fun k hk=>hk.elim (fun hm=>h3.block k ⟨hP.lt.2.1 k hm,by rw [h.cM _ p hp k hm];omega⟩) (hG k)),hP.sv.keepG hG,hl⟩
  ·exact r7 (by omega) (by omega) j q hq' (by omega) (by omega)
 ·rcases set_at hp hq with ⟨rfl,rfl⟩|⟨hj,hq'⟩
  ·exact r4 _ p hp
  ·exact r4 j q hq'
 ·rcases set_at hp hq with ⟨rfl,rfl⟩|⟨hj,hq'⟩
  ·exact r5 _ p hp k hk
  ·exact r5 j q hq' k hk
 ·rcases set_at hp hq with ⟨rfl,rfl⟩|⟨hj,hq'⟩
  ·exact h2 k hk
  ·exact r6 j q hq' k hk
theorem LawW.below {B0:Nat}{w0 w w':World}{col:Nat->Int}{F:Nat->Prop}{wb came:Nat}{psv ov o3:Value}{n:Nat}{gs:List Value}{ps:List Pr}(h:LawW B0 w0 w col F wb came psv ov o3 n gs ps)(hb:Below w.heap.size w w'):LawW B0 w0 w' col F wb came psv ov o3 n gs ps:=by
 obtain ⟨r1,r2,r3,r4,r5,r6,r7,r8⟩:=h.rest (c:=-9) (fun k _=>rfl) ⟨hb.os,hb.tape,hb.output,hb.size,fun k hk=>hb.block k hk.1⟩
 obtain ⟨o1,o2,o3x⟩:=r8 (by omega) (by omega)
 exact ⟨o1,o2,o3x,(r1 (by omega)).1,h.len,(r2 (by omega)).1,fun i p hp=>r7 (by omega) (by omega) i p hp (by omega) (by omega),r3,(r1 (by omega)).2,(r2 (by omega)).2,r4,r5,r6⟩
def Pl.snd2 (op:Nat)(a:Pl.V)(o2:Pl.Out Pl.V):Pl.Out Pl.V:=match o2 with
 | .error e=>.error e
 | .ok b=>Pl.ap2 op a b
def Pl.duo (op:Nat)(o1 o2:Pl.Out Pl.V):Pl.Out Pl.V:=match o1 with
 | .error e=>.error e
 | .ok a=>@ite _ (17<=op/\a=Pl.tru (op == 18)) (@instDecidableAnd _ _ _ (Pl.decV a (Pl.tru (op == 18)))) (.ok a) (Pl.snd2 op a o2)
theorem blk3 {w:World}{k:Nat}{a b c:Value}{T:TypeId}(h:w.heap[k]?=some (.cells #[a,b,c] T)):k<w.heap.size/\w.cell? ⟨k,0,none⟩=some a/\w.cell? ⟨k,1,none⟩=some b/\w.cell? ⟨k,2,none⟩=some c/\w.frozen? ⟨k,0,none⟩=false/\w.frozen? ⟨k,1,none⟩=false/\w.frozen? ⟨k,2,none⟩=false:=by
 have h0:=bC h 0
 have h1:=bC h 1
 have h2:=bC h 2
 simp at h0 h1 h2
 exact ⟨lB h,h0,h1,h2,bF h 0,bF h 1,bF h 2⟩
theorem blkN {w:World}{k:Nat}{op:Nat}{vl vr:Value}{kd m:Int}{s src name:List UInt8}(h:w.heap[k]?=some (nodeO op vl vr kd m s src name)):k<w.heap.size/\w.cell? ⟨k,0,none⟩=some (.string (signB op))/\w.cell? ⟨k,2,none⟩=some vr:=by
 have h0:=bC h 0
 have h2:=bC h 2
 simp at h0 h2
 exact ⟨lB h,h0,h2⟩
theorem outE_shape (o:Pl.Out Pl.V):∃ (x y:Int)(z:ByteArray)(er:Int),outE o=.tuple #[.agg #[.int .i64 x,.int .i64 y,.string z],.int .i64 er]:=by
 cases o with
 | error e=>exact ⟨_,_,_,_,rfl⟩
 | ok v=>exact ⟨_,_,_,_,rfl⟩
theorem ent_reckon (vs:Array Value)(w:World):(callFunc 193 vs).run Tryz.prog w=.ok (.enter 193 vs) w:=by
 have h1:(Tryz.f193.name == "runtime.NumGoroutine")=false:=by kernel_rfl
 have h2 : Tryz.f193.body.isNone=false:=by kernel_rfl
 have h1':¬ Tryz.f193.name = "runtime.NumGoroutine":=by simpa using h1
 have h2':¬ Tryz.f193.body=none:=by intro e;rw [e] at h2;cases h2
 simp [callFunc,go_sem,Tryz.func193,h1',h2']
theorem rk_cl {sg:ByteArray}{x y:Int}{res:Value}{w w7:World}(hk:∀ W:World,Calls Tryz.prog 193 #[.string sg,.int .i64 x,.int .i64 y] W fun e w'=>e=.returned res/\Below W.heap.size W w')(hR:w7.heap[w.heap.size]?=some zeroO)(hB:Below w.heap.size w w7):Calls Tryz.prog 193 #[.string sg,.int .i64 x,.int .i64 y] w7.drew fun e w'=>∃ v,e=.returned v/\(v=res/\w'.heap[w.heap.size]?=some zeroO/\Below w.heap.size w w'):=by
 refine (hk w7.drew).mono ?_
 rintro e w' ⟨rfl,hb⟩
 have hb':Below w7.heap.size w7 w':=(Below.refl _ _).drew.trans hb
 exact ⟨_,rfl,rfl,bB hb' (lB hR) hR,hB.trans (hb'.mono hB.size)⟩
theorem valueErr (op:Nat)(h6:6<=op)(h18:op<=18)(er:Nat)(her0:er≠0)(o1:Pl.Out Pl.V)(ho1:o1=.error er)(n:Nat)(al ar:Addr)(kd m:Int)(s src name:List UInt8)(v:Value)(w:World)(hn:w.heap[n]?=some (nodeO op (.pointer (some al)) (.pointer (some ar)) kd m s src name))(hl:VaC o1 v (.pointer (some al)) w)(hv:∃ a l c,v=.slice a l c) :
 Calls Tryz.prog 134 #[.pointer (some ⟨n,0,none⟩),v] w fun e w'=>e=.returned (outE (.error er))/\Below w.heap.size w w':=by
 subst ho1
 obtain ⟨va,vn,vc,rfl⟩:=hv
 have hnl:=lB hn
 have hB0:Below w.heap.size w (w.alloc zeroO):=(Below.refl _ _).alloc (Nat.le_refl _) _
 have HL:=Z (hl (w.alloc zeroO) hB0)
 have HN:=Z (bA hn zeroO)
 have HB0:=Z hB0
 have hx0:=bC hn 0
 have hx1:=bC hn 1
 simp at hx0 hx1
 clear hl hn hB0
 have HSet:Hid (∀ w1 x y z,Below w.heap.size w w1->Below w.heap.size w (((w1.setCell ⟨w.heap.size,0,none⟩ x).setCell ⟨w.heap.size,1,none⟩ y).setCell ⟨w.heap.size,2,none⟩ z)):=fun w1 x y z hb=>((hb.setCell (Nat.le_refl _) _).setCell (Nat.le_refl _) _).setCell (Nat.le_refl _) _
 have her:(((er:Nat):Int) != 0)=true:=by simp;omega
 clear her0
 obtain rfl|rfl|rfl|rfl|rfl|rfl|rfl|rfl|rfl|rfl|rfl|rfl|rfl:op=6\/op=7\/op=8\/op=9\/op=10\/op=11\/op=12\/op=13\/op=14\/op=15\/op=16\/op=17\/op=18:=by omega
 all_goals
  simp [signB,signs] at hx0
  go_enter Tryz.func134,Tryz.ntmps134
  go_wp2_with fail
  refine (U HL).mono ?_
  rintro e w1 ⟨rfl,hb1⟩
  simp only [outE,aggR,Pl.nul]
  have hR:=bB hb1 (by simp) (blk_new w zeroO)
  have HB1:=Z (HB0.out.trans (hb1.mono HB0.out.size))
  have hn1:=bB hb1 (lB HN.out) HN.out
  clear HL hx0 hx1
  go_upto_region 8 with fail
  have hA:=blk_new w1 (.cells #[.int .i64 0,.int .i64 0,.string ⟨#[]⟩] 34)
  have hR2:=bA hR (.cells #[.int .i64 0,.int .i64 0,.string ⟨#[]⟩] 34)
  have hn2:=bA hn1 (.cells #[.int .i64 0,.int .i64 0,.string ⟨#[]⟩] 34)
  have HB2:=Z (HB1.out.alloc HB1.out.size (.cells #[.int .i64 0,.int .i64 0,.string ⟨#[]⟩] 34))
  generalize w1.alloc (.cells #[.int .i64 0,.int .i64 0,.string ⟨#[]⟩] 34)=w2 at *
  generalize w1.heap.size=A at *
  obtain ⟨yrz,yr0,yr1,yr2,yrf0,yrf1,yrf2⟩:=blk3 hR2
  obtain ⟨yaz,ya0,ya1,ya2,-⟩:=blk3 hA
  obtain ⟨ynz,yn0,yn2⟩:=blkN hn2
  simp [signB,signs] at yn0
  have HR2:=Z hR2
  have HA2:=Z hA
  have HN2:=Z hn2
  clear hA hR2 hn2 hb1 hR hn1 HB1
  go_wp2_with fail
  exact retV HR2.out rfl rfl ⟨rfl,HSet.out _ _ _ _ HB2.out⟩
theorem valueNumA (op:Nat)(hop:op=6\/op=7\/op=8)(a:Pl.V)(ha:Pl.okV a)(o1 o2:Pl.Out Pl.V)(ho1:o1=.ok a)(ho2:∀ b,o2=.ok b->Pl.okV b)(he2:∀ e,o2=.error e->e≠0)(n:Nat)(al ar:Addr)(kd m:Int)(s src name:List UInt8)(v:Value)(w:World)(hn:w.heap[n]?=some (nodeO op (.pointer (some al)) (.pointer (some ar)) kd m s src name))(hl:VaC o1 v (.pointer (some al)) w)(hr:VaC o2 v (.pointer (some ar)) w)(hv:∃ a l c,v=.slice a l c) :
 Calls Tryz.prog 134 #[.pointer (some ⟨n,0,none⟩),v] w fun e w'=>e=.returned (outE (Pl.snd2 op a o2))/\Below w.heap.size w w':=by
 subst ho1
 obtain ⟨va,vn,vc,rfl⟩:=hv
 have hnl:=lB hn
 have hB0:Below w.heap.size w (w.alloc zeroO):=(Below.refl _ _).alloc (Nat.le_refl _) _
 have HL:=Z (hl (w.alloc zeroO) hB0)
 have HRt:=Z hr
 have HN:=Z (bA hn zeroO)
 have HB0:=Z hB0
 have hx0:=bC hn 0
 have hx1:=bC hn 1
 simp at hx0 hx1
 clear hl hn hB0 hr
 have HSet:Hid (∀ w1 x y z,Below w.heap.size w w1->Below w.heap.size w (((w1.setCell ⟨w.heap.size,0,none⟩ x).setCell ⟨w.heap.size,1,none⟩ y).setCell ⟨w.heap.size,2,none⟩ z)):=fun w1 x y z hb=>((hb.setCell (Nat.le_refl _) _).setCell (Nat.le_refl _) _).setCell (Nat.le_refl _) _
 cases o2 with
 | error er =>
  simp only [Pl.snd2]
  have her:(((er:Nat):Int) != 0)=true:=by have:=he2 er rfl;simp;omega
  clear ho2 he2 ha
  obtain rfl|rfl|rfl:op=6\/op=7\/op=8:=hop
  all_goals
   simp [signB,signs] at hx0
   go_enter Tryz.func134,Tryz.ntmps134
   go_wp2_with fail
   refine (U HL).mono ?_
   rintro e w1 ⟨rfl,hb1⟩
   simp only [outE,aggR,Pl.nul]
   have hR:=bB hb1 (by simp) (blk_new w zeroO)
   have HB1:=Z (HB0.out.trans (hb1.mono HB0.out.size))
   have hn1:=bB hb1 (lB HN.out) HN.out
   clear HL hx0 hx1
   go_upto_region 8 with fail
   have hA:=blk_new w1 (.cells #[.int .i64 a.kind,.int .i64 a.n,.string ⟨a.s.toArray⟩] 34)
   have hR2:=bA hR (.cells #[.int .i64 a.kind,.int .i64 a.n,.string ⟨a.s.toArray⟩] 34)
   have hn2:=bA hn1 (.cells #[.int .i64 a.kind,.int .i64 a.n,.string ⟨a.s.toArray⟩] 34)
   have HB2:=Z (HB1.out.alloc HB1.out.size (.cells #[.int .i64 a.kind,.int .i64 a.n,.string ⟨a.s.toArray⟩] 34))
   generalize w1.alloc (.cells #[.int .i64 a.kind,.int .i64 a.n,.string ⟨a.s.toArray⟩] 34)=w2 at *
   generalize w1.heap.size=A at *
   obtain ⟨yrz,yr0,yr1,yr2,yrf0,yrf1,yrf2⟩:=blk3 hR2
   obtain ⟨yaz,ya0,ya1,ya2,-⟩:=blk3 hA
   obtain ⟨ynz,yn0,yn2⟩:=blkN hn2
   simp [signB,signs] at yn0
   have HR2:=Z hR2
   have HA2:=Z hA
   have HN2:=Z hn2
   clear hA hR2 hn2 hb1 hR hn1 HB1
   go_wp2_with fail
   refine (truthR false w2).mono ?_
   rintro e w3 ⟨rfl,hb3⟩
   simp only [aggR,Pl.tru,if_true]
   try simp only [Bool.false_eq_true,if_false]
   have hR3:=bB hb3 yrz HR2.out
   have hA3:=bB hb3 yaz HA2.out
   have hn3:=bB hb3 ynz HN2.out
   have HB3:=Z (HB2.out.trans (hb3.mono HB2.out.size))
   clear yrz yr0 yr1 yr2 yrf0 yrf1 yrf2 yaz ya0 ya1 ya2 ynz yn0 yn2
   go_upto_region 24 with fail
   have hR4:=bA hR3 (.cells #[.int .i64 3,.int .i64 0,.string ⟨#[]⟩] 34)
   have hA4:=bA hA3 (.cells #[.int .i64 3,.int .i64 0,.string ⟨#[]⟩] 34)
   have hL4:=blk_new w3 (.cells #[.int .i64 3,.int .i64 0,.string ⟨#[]⟩] 34)
   have hn4:=bA hn3 (.cells #[.int .i64 3,.int .i64 0,.string ⟨#[]⟩] 34)
   have HB4:=Z (HB3.out.alloc HB3.out.size (.cells #[.int .i64 3,.int .i64 0,.string ⟨#[]⟩] 34))
   generalize w3.alloc (.cells #[.int .i64 3,.int .i64 0,.string ⟨#[]⟩] 34)=w4 at *
   generalize w3.heap.size=L at *
   obtain ⟨yrz,yr0,yr1,yr2,yrf0,yrf1,yrf2⟩:=blk3 hR4
   obtain ⟨yaz,ya0,ya1,ya2,-⟩:=blk3 hA4
   obtain ⟨ylz,yl0,yl1,yl2,-⟩:=blk3 hL4
   obtain ⟨ynz,yn0,yn2⟩:=blkN hn4
   simp [signB,signs] at yn0
   have HR4:=Z hR4
   have HA4:=Z hA4
   have HL4:=Z hL4
   have HN4:=Z hn4
   clear hR3 hA3 hn3 hR4 hA4 hL4 hn4 hb3 HB2 HB3 HR2 HA2 HN2
   go_wp2_with fail
   refine ((U HRt) w4 HB4.out).mono ?_
   rintro e w5 ⟨rfl,hb5⟩
   simp only [outE,aggR,Pl.nul]
   have hR5:=bB hb5 yrz HR4.out
   have hA5:=bB hb5 yaz HA4.out
   have hL5:=bB hb5 ylz HL4.out
   have hn5:=bB hb5 ynz HN4.out
   have HB5:=Z (HB4.out.trans (hb5.mono HB4.out.size))
   clear yrz yr0 yr1 yr2 yrf0 yrf1 yrf2 yaz ya0 ya1 ya2 ylz yl0 yl1 yl2 ynz yn0 yn2
   go_upto_region 27 with fail
   have hR6:=bA hR5 (.cells #[.int .i64 0,.int .i64 0,.string ⟨#[]⟩] 34)
   have hA6:=bA hA5 (.cells #[.int .i64 0,.int .i64 0,.string ⟨#[]⟩] 34)
   have hL6:=bA hL5 (.cells #[.int .i64 0,.int .i64 0,.string ⟨#[]⟩] 34)
   have hB6:=blk_new w5 (.cells #[.int .i64 0,.int .i64 0,.string ⟨#[]⟩] 34)
   have hn6:=bA hn5 (.cells #[.int .i64 0,.int .i64 0,.string ⟨#[]⟩] 34)
   have HB6:=Z (HB5.out.alloc HB5.out.size (.cells #[.int .i64 0,.int .i64 0,.string ⟨#[]⟩] 34))
   generalize w5.alloc (.cells #[.int .i64 0,.int .i64 0,.string ⟨#[]⟩] 34)=w6 at *
   generalize w5.heap.size=B at *
   obtain ⟨yrz,yr0,yr1,yr2,yrf0,yrf1,yrf2⟩:=blk3 hR6
   obtain ⟨yaz,ya0,ya1,ya2,-⟩:=blk3 hA6
   obtain ⟨ylz,yl0,yl1,yl2,-⟩:=blk3 hL6
   obtain ⟨ybz,yb0,yb1,yb2,-⟩:=blk3 hB6
   obtain ⟨ynz,yn0,-⟩:=blkN hn6
   simp [signB,signs] at yn0
   have HR6:=Z hR6
   have HA6:=Z hA6
   have HBb6:=Z hB6
   have HN6:=Z hn6
   clear hR5 hA5 hL5 hn5 hR6 hA6 hL6 hB6 hn6 hb5 HB4 HB5 HR4 HA4 HL4 HN4 HRt
   go_wp2_with fail
   exact retV HR6.out rfl rfl ⟨rfl,HSet.out _ _ _ _ HB6.out⟩
 | ok b =>
  simp only [Pl.snd2]
  have hb:=ho2 b rfl
  clear ho2 he2
  cases hm:(a.miss || b.miss) with
  | true =>
   have hm2:(a.kind == 0)=true\/((a.kind == 0)=false/\(b.kind == 0)=true):=by
    unfold Pl.V.miss at hm
    cases h1:(a.kind == 0) with
    | true=>exact .inl rfl
    | false=>rw [h1] at hm;exact .inr ⟨rfl,by simpa using hm⟩
   have HPo:Hid (Pl.ap2 op a b=.ok Pl.nul):=by
    unfold Hid Pl.ap2
    rw [if_neg (by omega),if_pos hm]
   rw [HPo.out]
   clear HPo hm ha hb
   rcases hm2 with g0|⟨g0,g1⟩
   all_goals
    obtain rfl|rfl|rfl:op=6\/op=7\/op=8:=hop
    all_goals
     simp [signB,signs] at hx0
     go_enter Tryz.func134,Tryz.ntmps134
     go_wp2_with fail
     refine (U HL).mono ?_
     rintro e w1 ⟨rfl,hb1⟩
     simp only [outE,aggR,Pl.nul]
     have hR:=bB hb1 (by simp) (blk_new w zeroO)
     have HB1:=Z (HB0.out.trans (hb1.mono HB0.out.size))
     have hn1:=bB hb1 (lB HN.out) HN.out
     clear HL hx0 hx1
     go_upto_region 8 with fail
     have hA:=blk_new w1 (.cells #[.int .i64 a.kind,.int .i64 a.n,.string ⟨a.s.toArray⟩] 34)
     have hR2:=bA hR (.cells #[.int .i64 a.kind,.int .i64 a.n,.string ⟨a.s.toArray⟩] 34)
     have hn2:=bA hn1 (.cells #[.int .i64 a.kind,.int .i64 a.n,.string ⟨a.s.toArray⟩] 34)
     have HB2:=Z (HB1.out.alloc HB1.out.size (.cells #[.int .i64 a.kind,.int .i64 a.n,.string ⟨a.s.toArray⟩] 34))
     generalize w1.alloc (.cells #[.int .i64 a.kind,.int .i64 a.n,.string ⟨a.s.toArray⟩] 34)=w2 at *
     generalize w1.heap.size=A at *
     obtain ⟨yrz,yr0,yr1,yr2,yrf0,yrf1,yrf2⟩:=blk3 hR2
     obtain ⟨yaz,ya0,ya1,ya2,-⟩:=blk3 hA
     obtain ⟨ynz,yn0,yn2⟩:=blkN hn2
     simp [signB,signs] at yn0
     have HR2:=Z hR2
     have HA2:=Z hA
     have HN2:=Z hn2
     clear hA hR2 hn2 hb1 hR hn1 HB1
     go_wp2_with fail
     refine (truthR false w2).mono ?_
     rintro e w3 ⟨rfl,hb3⟩
     simp only [aggR,Pl.tru,if_true]
     try simp only [Bool.false_eq_true,if_false]
     have hR3:=bB hb3 yrz HR2.out
     have hA3:=bB hb3 yaz HA2.out
     have hn3:=bB hb3 ynz HN2.out
     have HB3:=Z (HB2.out.trans (hb3.mono HB2.out.size))
     clear yrz yr0 yr1 yr2 yrf0 yrf1 yrf2 yaz ya0 ya1 ya2 ynz yn0 yn2
     go_upto_region 24 with fail
     have hR4:=bA hR3 (.cells #[.int .i64 3,.int .i64 0,.string ⟨#[]⟩] 34)
     have hA4:=bA hA3 (.cells #[.int .i64 3,.int .i64 0,.string ⟨#[]⟩] 34)
     have hL4:=blk_new w3 (.cells #[.int .i64 3,.int .i64 0,.string ⟨#[]⟩] 34)
     have hn4:=bA hn3 (.cells #[.int .i64 3,.int .i64 0,.string ⟨#[]⟩] 34)
     have HB4:=Z (HB3.out.alloc HB3.out.size (.cells #[.int .i64 3,.int .i64 0,.string ⟨#[]⟩] 34))
     generalize w3.alloc (.cells #[.int .i64 3,.int .i64 0,.string ⟨#[]⟩] 34)=w4 at *
     generalize w3.heap.size=L at *
     obtain ⟨yrz,yr0,yr1,yr2,yrf0,yrf1,yrf2⟩:=blk3 hR4
     obtain ⟨yaz,ya0,ya1,ya2,-⟩:=blk3 hA4
     obtain ⟨ylz,yl0,yl1,yl2,-⟩:=blk3 hL4
     obtain ⟨ynz,yn0,yn2⟩:=blkN hn4
     simp [signB,signs] at yn0
     have HR4:=Z hR4
     have HA4:=Z hA4
     have HL4:=Z hL4
     have HN4:=Z hn4
     clear hR3 hA3 hn3 hR4 hA4 hL4 hn4 hb3 HB2 HB3 HR2 HA2 HN2
     go_wp2_with fail
     refine ((U HRt) w4 HB4.out).mono ?_
     rintro e w5 ⟨rfl,hb5⟩
     simp only [outE,aggR,Pl.nul]
     have hR5:=bB hb5 yrz HR4.out
     have hA5:=bB hb5 yaz HA4.out
     have hL5:=bB hb5 ylz HL4.out
     have hn5:=bB hb5 ynz HN4.out
     have HB5:=Z (HB4.out.trans (hb5.mono HB4.out.size))
     clear yrz yr0 yr1 yr2 yrf0 yrf1 yrf2 yaz ya0 ya1 ya2 ylz yl0 yl1 yl2 ynz yn0 yn2
     go_upto_region 27 with fail
     have hR6:=bA hR5 (.cells #[.int .i64 b.kind,.int .i64 b.n,.string ⟨b.s.toArray⟩] 34)
     have hA6:=bA hA5 (.cells #[.int .i64 b.kind,.int .i64 b.n,.string ⟨b.s.toArray⟩] 34)
     have hL6:=bA hL5 (.cells #[.int .i64 b.kind,.int .i64 b.n,.string ⟨b.s.toArray⟩] 34)
     have hB6:=blk_new w5 (.cells #[.int .i64 b.kind,.int .i64 b.n,.string ⟨b.s.toArray⟩] 34)
     have hn6:=bA hn5 (.cells #[.int .i64 b.kind,.int .i64 b.n,.string ⟨b.s.toArray⟩] 34)
     have HB6:=Z (HB5.out.alloc HB5.out.size (.cells #[.int .i64 b.kind,.int .i64 b.n,.string ⟨b.s.toArray⟩] 34))
     generalize w5.alloc (.cells #[.int .i64 b.kind,.int .i64 b.n,.string ⟨b.s.toArray⟩] 34)=w6 at *
     generalize w5.heap.size=B at *
     obtain ⟨yrz,yr0,yr1,yr2,yrf0,yrf1,yrf2⟩:=blk3 hR6
     obtain ⟨yaz,ya0,ya1,ya2,-⟩:=blk3 hA6
     obtain ⟨ylz,yl0,yl1,yl2,-⟩:=blk3 hL6
     obtain ⟨ybz,yb0,yb1,yb2,-⟩:=blk3 hB6
     obtain ⟨ynz,yn0,-⟩:=blkN hn6
     simp [signB,signs] at yn0
     have HR6:=Z hR6
     have HA6:=Z hA6
     have HBb6:=Z hB6
     have HN6:=Z hn6
     clear hR5 hA5 hL5 hn5 hR6 hA6 hL6 hB6 hn6 hb5 HB4 HB5 HR4 HA4 HL4 HN4 HRt
     go_wp2_with fail
     exact retV HR6.out rfl rfl ⟨rfl,HSet.out _ _ _ _ HB6.out⟩
  | false =>
   obtain ⟨h1,h2⟩:a.miss=false/\b.miss=false:=by simpa using hm
   have g0:(a.kind == 0)=false:=h1
   have g1:(b.kind == 0)=false:=h2
   have HPo:Hid (Pl.ap2 op a b=Pl.reckon op a.n b.n):=by
    unfold Hid Pl.ap2
    rw [if_neg (by omega),if_neg (by simp [h1,h2]),if_pos (by omega)]
   rw [HPo.out]
   have HRk:=Z (fun W=>reckonR op (by omega) (by omega) a.n b.n W ha.range hb.range)
   generalize Pl.reckon op a.n b.n=oo at *
   obtain ⟨ox,oy,oz,oer,hsh⟩:=outE_shape oo
   rw [hsh] at HRk ⊢
   clear hsh
   clear HPo hm ha hb h1 h2
   obtain rfl|rfl|rfl:op=6\/op=7\/op=8:=hop
   all_goals simp [signB,signs] at hx0
   all_goals simp [signB,signs] at HRk
   all_goals
    go_enter Tryz.func134,Tryz.ntmps134
    go_wp2_with fail
    refine (U HL).mono ?_
    rintro e w1 ⟨rfl,hb1⟩
    simp only [outE,aggR,Pl.nul]
    have hR:=bB hb1 (by simp) (blk_new w zeroO)
    have HB1:=Z (HB0.out.trans (hb1.mono HB0.out.size))
    have hn1:=bB hb1 (lB HN.out) HN.out
    clear HL hx0 hx1
    go_upto_region 8 with fail
    have hA:=blk_new w1 (.cells #[.int .i64 a.kind,.int .i64 a.n,.string ⟨a.s.toArray⟩] 34)
    have hR2:=bA hR (.cells #[.int .i64 a.kind,.int .i64 a.n,.string ⟨a.s.toArray⟩] 34)
    have hn2:=bA hn1 (.cells #[.int .i64 a.kind,.int .i64 a.n,.string ⟨a.s.toArray⟩] 34)
    have HB2:=Z (HB1.out.alloc HB1.out.size (.cells #[.int .i64 a.kind,.int .i64 a.n,.string ⟨a.s.toArray⟩] 34))
    generalize w1.alloc (.cells #[.int .i64 a.kind,.int .i64 a.n,.string ⟨a.s.toArray⟩] 34)=w2 at *
    generalize w1.heap.size=A at *
    obtain ⟨yrz,yr0,yr1,yr2,yrf0,yrf1,yrf2⟩:=blk3 hR2
    obtain ⟨yaz,ya0,ya1,ya2,-⟩:=blk3 hA
    obtain ⟨ynz,yn0,yn2⟩:=blkN hn2
    simp [signB,signs] at yn0
    have HR2:=Z hR2
    have HA2:=Z hA
    have HN2:=Z hn2
    clear hA hR2 hn2 hb1 hR hn1 HB1
    go_wp2_with fail
    refine (truthR false w2).mono ?_
    rintro e w3 ⟨rfl,hb3⟩
    simp only [aggR,Pl.tru,if_true]
    try simp only [Bool.false_eq_true,if_false]
    have hR3:=bB hb3 yrz HR2.out
    have hA3:=bB hb3 yaz HA2.out
    have hn3:=bB hb3 ynz HN2.out
    have HB3:=Z (HB2.out.trans (hb3.mono HB2.out.size))
    clear yrz yr0 yr1 yr2 yrf0 yrf1 yrf2 yaz ya0 ya1 ya2 ynz yn0 yn2
    go_upto_region 24 with fail
    have hR4:=bA hR3 (.cells #[.int .i64 3,.int .i64 0,.string ⟨#[]⟩] 34)
    have hA4:=bA hA3 (.cells #[.int .i64 3,.int .i64 0,.string ⟨#[]⟩] 34)
    have hL4:=blk_new w3 (.cells #[.int .i64 3,.int .i64 0,.string ⟨#[]⟩] 34)
    have hn4:=bA hn3 (.cells #[.int .i64 3,.int .i64 0,.string ⟨#[]⟩] 34)
    have HB4:=Z (HB3.out.alloc HB3.out.size (.cells #[.int .i64 3,.int .i64 0,.string ⟨#[]⟩] 34))
    generalize w3.alloc (.cells #[.int .i64 3,.int .i64 0,.string ⟨#[]⟩] 34)=w4 at *
    generalize w3.heap.size=L at *
    obtain ⟨yrz,yr0,yr1,yr2,yrf0,yrf1,yrf2⟩:=blk3 hR4
    obtain ⟨yaz,ya0,ya1,ya2,-⟩:=blk3 hA4
    obtain ⟨ylz,yl0,yl1,yl2,-⟩:=blk3 hL4
    obtain ⟨ynz,yn0,yn2⟩:=blkN hn4
    simp [signB,signs] at yn0
    have HR4:=Z hR4
    have HA4:=Z hA4
    have HL4:=Z hL4
    have HN4:=Z hn4
    clear hR3 hA3 hn3 hR4 hA4 hL4 hn4 hb3 HB2 HB3 HR2 HA2 HN2
    go_wp2_with fail
    refine ((U HRt) w4 HB4.out).mono ?_
    rintro e w5 ⟨rfl,hb5⟩
    simp only [outE,aggR,Pl.nul]
    have hR5:=bB hb5 yrz HR4.out
    have hA5:=bB hb5 yaz HA4.out
    have hL5:=bB hb5 ylz HL4.out
    have hn5:=bB hb5 ynz HN4.out
    have HB5:=Z (HB4.out.trans (hb5.mono HB4.out.size))
    clear yrz yr0 yr1 yr2 yrf0 yrf1 yrf2 yaz ya0 ya1 ya2 ylz yl0 yl1 yl2 ynz yn0 yn2
    go_upto_region 27 with fail
    have hR6:=bA hR5 (.cells #[.int .i64 b.kind,.int .i64 b.n,.string ⟨b.s.toArray⟩] 34)
    have hA6:=bA hA5 (.cells #[.int .i64 b.kind,.int .i64 b.n,.string ⟨b.s.toArray⟩] 34)
    have hL6:=bA hL5 (.cells #[.int .i64 b.kind,.int .i64 b.n,.string ⟨b.s.toArray⟩] 34)
    have hB6:=blk_new w5 (.cells #[.int .i64 b.kind,.int .i64 b.n,.string ⟨b.s.toArray⟩] 34)
    have hn6:=bA hn5 (.cells #[.int .i64 b.kind,.int .i64 b.n,.string ⟨b.s.toArray⟩] 34)
    have HB6:=Z (HB5.out.alloc HB5.out.size (.cells #[.int .i64 b.kind,.int .i64 b.n,.string ⟨b.s.toArray⟩] 34))
    generalize w5.alloc (.cells #[.int .i64 b.kind,.int .i64 b.n,.string ⟨b.s.toArray⟩] 34)=w6 at *
    generalize w5.heap.size=B at *
    obtain ⟨yrz,yr0,yr1,yr2,yrf0,yrf1,yrf2⟩:=blk3 hR6
    obtain ⟨yaz,ya0,ya1,ya2,-⟩:=blk3 hA6
    obtain ⟨ylz,yl0,yl1,yl2,-⟩:=blk3 hL6
    obtain ⟨ybz,yb0,yb1,yb2,-⟩:=blk3 hB6
    obtain ⟨ynz,yn0,-⟩:=blkN hn6
    simp [signB,signs] at yn0
    have HR6:=Z hR6
    have HA6:=Z hA6
    have HBb6:=Z hB6
    have HN6:=Z hn6
    clear hR5 hA5 hL5 hn5 hR6 hA6 hL6 hB6 hn6 hb5 HB4 HB5 HR4 HA4 HL4 HN4 HRt
    go_wp2_with fail
    refine (orderR a b w6).mono ?_
    rintro e w7 ⟨rfl,hb7⟩
    have hR7:=bB hb7 yrz HR6.out
    have hA7:=bB hb7 yaz HA6.out
    have hB7:=bB hb7 ybz HBb6.out
    have hn7:=bB hb7 ynz HN6.out
    have HB7:=Z (HB6.out.trans (hb7.mono HB6.out.size))
    generalize Pl.ordR a b=oc at *
    clear yrz yr0 yr1 yr2 yrf0 yrf1 yrf2 yaz ya0 ya1 ya2 ylz yl0 yl1 yl2 ybz yb0 yb1 yb2 ynz yn0
    obtain ⟨yrz,yr0,yr1,yr2,yrf0,yrf1,yrf2⟩:=blk3 hR7
    obtain ⟨yaz,ya0,ya1,ya2,-⟩:=blk3 hA7
    obtain ⟨ybz,yb0,yb1,yb2,-⟩:=blk3 hB7
    obtain ⟨ynz,yn0,-⟩:=blkN hn7
    simp [signB,signs] at yn0
    have HR7:=Z hR7
    clear hb7 hA7 hB7 hn7 hR7 HB6 HR6 HA6 HBb6 HN6
    go_upto_region 49 with fail
    have HCl:=Z (rk_cl (U HRk) HR7.out HB7.out)
    go_region_law (refine step_call3 rfl 193 (.tmp 202) (.tmp 204) (.tmp 206) _ rfl _ _ _ (ent_reckon _ _) (by simp [Act.eval,Act.put]) (by simp [Act.eval,Act.put]) (by simp [Act.eval,Act.put]) _ (U HCl) ?_
                   rintro v8 w8 ⟨rfl,hR8,hb8⟩
                   obtain ⟨yz8,y80,y81,y82,yf0,yf1,yf2⟩:=blk3 hR8
                   have HR8:=Z hR8
                   have HB8:=Z hb8
                   clear hR8 hb8)
    all_goals go_wp2_with fail
    all_goals exact retV HR8.out rfl rfl ⟨rfl,HSet.out _ _ _ _ HB8.out⟩
theorem valueNumB (op:Nat)(hop:op=9\/op=10)(a:Pl.V)(ha:Pl.okV a)(o1 o2:Pl.Out Pl.V)(ho1:o1=.ok a)(ho2:∀ b,o2=.ok b->Pl.okV b)(he2:∀ e,o2=.error e->e≠0)(n:Nat)(al ar:Addr)(kd m:Int)(s src name:List UInt8)(v:Value)(w:World)(hn:w.heap[n]?=some (nodeO op (.pointer (some al)) (.pointer (some ar)) kd m s src name))(hl:VaC o1 v (.pointer (some al)) w)(hr:VaC o2 v (.pointer (some ar)) w)(hv:∃ a l c,v=.slice a l c) :
 Calls Tryz.prog 134 #[.pointer (some ⟨n,0,none⟩),v] w fun e w'=>e=.returned (outE (Pl.snd2 op a o2))/\Below w.heap.size w w':=by
 subst ho1
 obtain ⟨va,vn,vc,rfl⟩:=hv
 have hnl:=lB hn
 have hB0:Below w.heap.size w (w.alloc zeroO):=(Below.refl _ _).alloc (Nat.le_refl _) _
 have HL:=Z (hl (w.alloc zeroO) hB0)
 have HRt:=Z hr
 have HN:=Z (bA hn zeroO)
 have HB0:=Z hB0
 have hx0:=bC hn 0
 have hx1:=bC hn 1
 simp at hx0 hx1
 clear hl hn hB0 hr
 have HSet:Hid (∀ w1 x y z,Below w.heap.size w w1->Below w.heap.size w (((w1.setCell ⟨w.heap.size,0,none⟩ x).setCell ⟨w.heap.size,1,none⟩ y).setCell ⟨w.heap.size,2,none⟩ z)):=fun w1 x y z hb=>((hb.setCell (Nat.le_refl _) _).setCell (Nat.le_refl _) _).setCell (Nat.le_refl _) _
 cases o2 with
 | error er =>
  simp only [Pl.snd2]
  have her:(((er:Nat):Int) != 0)=true:=by have:=he2 er rfl;simp;omega
  clear ho2 he2 ha
  obtain rfl|rfl:op=9\/op=10:=hop
  all_goals
   simp [signB,signs] at hx0
   go_enter Tryz.func134,Tryz.ntmps134
   go_wp2_with fail
   refine (U HL).mono ?_
   rintro e w1 ⟨rfl,hb1⟩
   simp only [outE,aggR,Pl.nul]
   have hR:=bB hb1 (by simp) (blk_new w zeroO)
   have HB1:=Z (HB0.out.trans (hb1.mono HB0.out.size))
   have hn1:=bB hb1 (lB HN.out) HN.out
   clear HL hx0 hx1
   go_upto_region 8 with fail
   have hA:=blk_new w1 (.cells #[.int .i64 a.kind,.int .i64 a.n,.string ⟨a.s.toArray⟩] 34)
   have hR2:=bA hR (.cells #[.int .i64 a.kind,.int .i64 a.n,.string ⟨a.s.toArray⟩] 34)
   have hn2:=bA hn1 (.cells #[.int .i64 a.kind,.int .i64 a.n,.string ⟨a.s.toArray⟩] 34)
   have HB2:=Z (HB1.out.alloc HB1.out.size (.cells #[.int .i64 a.kind,.int .i64 a.n,.string ⟨a.s.toArray⟩] 34))
   generalize w1.alloc (.cells #[.int .i64 a.kind,.int .i64 a.n,.string ⟨a.s.toArray⟩] 34)=w2 at *
   generalize w1.heap.size=A at *
   obtain ⟨yrz,yr0,yr1,yr2,yrf0,yrf1,yrf2⟩:=blk3 hR2
   obtain ⟨yaz,ya0,ya1,ya2,-⟩:=blk3 hA
   obtain ⟨ynz,yn0,yn2⟩:=blkN hn2
   simp [signB,signs] at yn0
   have HR2:=Z hR2
   have HA2:=Z hA
   have HN2:=Z hn2
   clear hA hR2 hn2 hb1 hR hn1 HB1
   go_wp2_with fail
   refine (truthR false w2).mono ?_
   rintro e w3 ⟨rfl,hb3⟩
   simp only [aggR,Pl.tru,if_true]
   try simp only [Bool.false_eq_true,if_false]
   have hR3:=bB hb3 yrz HR2.out
   have hA3:=bB hb3 yaz HA2.out
   have hn3:=bB hb3 ynz HN2.out
   have HB3:=Z (HB2.out.trans (hb3.mono HB2.out.size))
   clear yrz yr0 yr1 yr2 yrf0 yrf1 yrf2 yaz ya0 ya1 ya2 ynz yn0 yn2
   go_upto_region 24 with fail
   have hR4:=bA hR3 (.cells #[.int .i64 3,.int .i64 0,.string ⟨#[]⟩] 34)
   have hA4:=bA hA3 (.cells #[.int .i64 3,.int .i64 0,.string ⟨#[]⟩] 34)
   have hL4:=blk_new w3 (.cells #[.int .i64 3,.int .i64 0,.string ⟨#[]⟩] 34)
   have hn4:=bA hn3 (.cells #[.int .i64 3,.int .i64 0,.string ⟨#[]⟩] 34)
   have HB4:=Z (HB3.out.alloc HB3.out.size (.cells #[.int .i64 3,.int .i64 0,.string ⟨#[]⟩] 34))
   generalize w3.alloc (.cells #[.int .i64 3,.int .i64 0,.string ⟨#[]⟩] 34)=w4 at *
   generalize w3.heap.size=L at *
   obtain ⟨yrz,yr0,yr1,yr2,yrf0,yrf1,yrf2⟩:=blk3 hR4
   obtain ⟨yaz,ya0,ya1,ya2,-⟩:=blk3 hA4
   obtain ⟨ylz,yl0,yl1,yl2,-⟩:=blk3 hL4
   obtain ⟨ynz,yn0,yn2⟩:=blkN hn4
   simp [signB,signs] at yn0
   have HR4:=Z hR4
   have HA4:=Z hA4
   have HL4:=Z hL4
   have HN4:=Z hn4
   clear hR3 hA3 hn3 hR4 hA4 hL4 hn4 hb3 HB2 HB3 HR2 HA2 HN2
   go_wp2_with fail
   refine ((U HRt) w4 HB4.out).mono ?_
   rintro e w5 ⟨rfl,hb5⟩
   simp only [outE,aggR,Pl.nul]
   have hR5:=bB hb5 yrz HR4.out
   have hA5:=bB hb5 yaz HA4.out
   have hL5:=bB hb5 ylz HL4.out
   have hn5:=bB hb5 ynz HN4.out
   have HB5:=Z (HB4.out.trans (hb5.mono HB4.out.size))
   clear yrz yr0 yr1 yr2 yrf0 yrf1 yrf2 yaz ya0 ya1 ya2 ylz yl0 yl1 yl2 ynz yn0 yn2
   go_upto_region 27 with fail
   have hR6:=bA hR5 (.cells #[.int .i64 0,.int .i64 0,.string ⟨#[]⟩] 34)
   have hA6:=bA hA5 (.cells #[.int .i64 0,.int .i64 0,.string ⟨#[]⟩] 34)
   have hL6:=bA hL5 (.cells #[.int .i64 0,.int .i64 0,.string ⟨#[]⟩] 34)
   have hB6:=blk_new w5 (.cells #[.int .i64 0,.int .i64 0,.string ⟨#[]⟩] 34)
   have hn6:=bA hn5 (.cells #[.int .i64 0,.int .i64 0,.string ⟨#[]⟩] 34)
   have HB6:=Z (HB5.out.alloc HB5.out.size (.cells #[.int .i64 0,.int .i64 0,.string ⟨#[]⟩] 34))
   generalize w5.alloc (.cells #[.int .i64 0,.int .i64 0,.string ⟨#[]⟩] 34)=w6 at *
   generalize w5.heap.size=B at *
   obtain ⟨yrz,yr0,yr1,yr2,yrf0,yrf1,yrf2⟩:=blk3 hR6
   obtain ⟨yaz,ya0,ya1,ya2,-⟩:=blk3 hA6
   obtain ⟨ylz,yl0,yl1,yl2,-⟩:=blk3 hL6
   obtain ⟨ybz,yb0,yb1,yb2,-⟩:=blk3 hB6
   obtain ⟨ynz,yn0,-⟩:=blkN hn6
   simp [signB,signs] at yn0
   have HR6:=Z hR6
   have HA6:=Z hA6
   have HBb6:=Z hB6
   have HN6:=Z hn6
   clear hR5 hA5 hL5 hn5 hR6 hA6 hL6 hB6 hn6 hb5 HB4 HB5 HR4 HA4 HL4 HN4 HRt
   go_wp2_with fail
   exact retV HR6.out rfl rfl ⟨rfl,HSet.out _ _ _ _ HB6.out⟩
 | ok b =>
  simp only [Pl.snd2]
  have hb:=ho2 b rfl
  clear ho2 he2
  cases hm:(a.miss || b.miss) with
  | true =>
   have hm2:(a.kind == 0)=true\/((a.kind == 0)=false/\(b.kind == 0)=true):=by
    unfold Pl.V.miss at hm
    cases h1:(a.kind == 0) with
    | true=>exact .inl rfl
    | false=>rw [h1] at hm;exact .inr ⟨rfl,by simpa using hm⟩
   have HPo:Hid (Pl.ap2 op a b=.ok Pl.nul):=by
    unfold Hid Pl.ap2
    rw [if_neg (by omega),if_pos hm]
   rw [HPo.out]
   clear HPo hm ha hb
   rcases hm2 with g0|⟨g0,g1⟩
   all_goals
    obtain rfl|rfl:op=9\/op=10:=hop
    all_goals
     simp [signB,signs] at hx0
     go_enter Tryz.func134,Tryz.ntmps134
     go_wp2_with fail
     refine (U HL).mono ?_
     rintro e w1 ⟨rfl,hb1⟩
     simp only [outE,aggR,Pl.nul]
     have hR:=bB hb1 (by simp) (blk_new w zeroO)
     have HB1:=Z (HB0.out.trans (hb1.mono HB0.out.size))
     have hn1:=bB hb1 (lB HN.out) HN.out
     clear HL hx0 hx1
     go_upto_region 8 with fail
     have hA:=blk_new w1 (.cells #[.int .i64 a.kind,.int .i64 a.n,.string ⟨a.s.toArray⟩] 34)
     have hR2:=bA hR (.cells #[.int .i64 a.kind,.int .i64 a.n,.string ⟨a.s.toArray⟩] 34)
     have hn2:=bA hn1 (.cells #[.int .i64 a.kind,.int .i64 a.n,.string ⟨a.s.toArray⟩] 34)
     have HB2:=Z (HB1.out.alloc HB1.out.size (.cells #[.int .i64 a.kind,.int .i64 a.n,.string ⟨a.s.toArray⟩] 34))
     generalize w1.alloc (.cells #[.int .i64 a.kind,.int .i64 a.n,.string ⟨a.s.toArray⟩] 34)=w2 at *
     generalize w1.heap.size=A at *
     obtain ⟨yrz,yr0,yr1,yr2,yrf0,yrf1,yrf2⟩:=blk3 hR2
     obtain ⟨yaz,ya0,ya1,ya2,-⟩:=blk3 hA
     obtain ⟨ynz,yn0,yn2⟩:=blkN hn2
     simp [signB,signs] at yn0
     have HR2:=Z hR2
     have HA2:=Z hA
     have HN2:=Z hn2
     clear hA hR2 hn2 hb1 hR hn1 HB1
     go_wp2_with fail
     refine (truthR false w2).mono ?_
     rintro e w3 ⟨rfl,hb3⟩
     simp only [aggR,Pl.tru,if_true]
     try simp only [Bool.false_eq_true,if_false]
     have hR3:=bB hb3 yrz HR2.out
     have hA3:=bB hb3 yaz HA2.out
     have hn3:=bB hb3 ynz HN2.out
     have HB3:=Z (HB2.out.trans (hb3.mono HB2.out.size))
     clear yrz yr0 yr1 yr2 yrf0 yrf1 yrf2 yaz ya0 ya1 ya2 ynz yn0 yn2
     go_upto_region 24 with fail
     have hR4:=bA hR3 (.cells #[.int .i64 3,.int .i64 0,.string ⟨#[]⟩] 34)
     have hA4:=bA hA3 (.cells #[.int .i64 3,.int .i64 0,.string ⟨#[]⟩] 34)
     have hL4:=blk_new w3 (.cells #[.int .i64 3,.int .i64 0,.string ⟨#[]⟩] 34)
     have hn4:=bA hn3 (.cells #[.int .i64 3,.int .i64 0,.string ⟨#[]⟩] 34)
     have HB4:=Z (HB3.out.alloc HB3.out.size (.cells #[.int .i64 3,.int .i64 0,.string ⟨#[]⟩] 34))
     generalize w3.alloc (.cells #[.int .i64 3,.int .i64 0,.string ⟨#[]⟩] 34)=w4 at *
     generalize w3.heap.size=L at *
     obtain ⟨yrz,yr0,yr1,yr2,yrf0,yrf1,yrf2⟩:=blk3 hR4
     obtain ⟨yaz,ya0,ya1,ya2,-⟩:=blk3 hA4
     obtain ⟨ylz,yl0,yl1,yl2,-⟩:=blk3 hL4
     obtain ⟨ynz,yn0,yn2⟩:=blkN hn4
     simp [signB,signs] at yn0
     have HR4:=Z hR4
     have HA4:=Z hA4
     have HL4:=Z hL4
     have HN4:=Z hn4
     clear hR3 hA3 hn3 hR4 hA4 hL4 hn4 hb3 HB2 HB3 HR2 HA2 HN2
     go_wp2_with fail
     refine ((U HRt) w4 HB4.out).mono ?_
     rintro e w5 ⟨rfl,hb5⟩
     simp only [outE,aggR,Pl.nul]
     have hR5:=bB hb5 yrz HR4.out
     have hA5:=bB hb5 yaz HA4.out
     have hL5:=bB hb5 ylz HL4.out
     have hn5:=bB hb5 ynz HN4.out
     have HB5:=Z (HB4.out.trans (hb5.mono HB4.out.size))
     clear yrz yr0 yr1 yr2 yrf0 yrf1 yrf2 yaz ya0 ya1 ya2 ylz yl0 yl1 yl2 ynz yn0 yn2
     go_upto_region 27 with fail
     have hR6:=bA hR5 (.cells #[.int .i64 b.kind,.int .i64 b.n,.string ⟨b.s.toArray⟩] 34)
     have hA6:=bA hA5 (.cells #[.int .i64 b.kind,.int .i64 b.n,.string ⟨b.s.toArray⟩] 34)
     have hL6:=bA hL5 (.cells #[.int .i64 b.kind,.int .i64 b.n,.string ⟨b.s.toArray⟩] 34)
     have hB6:=blk_new w5 (.cells #[.int .i64 b.kind,.int .i64 b.n,.string ⟨b.s.toArray⟩] 34)
     have hn6:=bA hn5 (.cells #[.int .i64 b.kind,.int .i64 b.n,.string ⟨b.s.toArray⟩] 34)
     have HB6:=Z (HB5.out.alloc HB5.out.size (.cells #[.int .i64 b.kind,.int .i64 b.n,.string ⟨b.s.toArray⟩] 34))
     generalize w5.alloc (.cells #[.int .i64 b.kind,.int .i64 b.n,.string ⟨b.s.toArray⟩] 34)=w6 at *
     generalize w5.heap.size=B at *
     obtain ⟨yrz,yr0,yr1,yr2,yrf0,yrf1,yrf2⟩:=blk3 hR6
     obtain ⟨yaz,ya0,ya1,ya2,-⟩:=blk3 hA6
     obtain ⟨ylz,yl0,yl1,yl2,-⟩:=blk3 hL6
     obtain ⟨ybz,yb0,yb1,yb2,-⟩:=blk3 hB6
     obtain ⟨ynz,yn0,-⟩:=blkN hn6
     simp [signB,signs] at yn0
     have HR6:=Z hR6
     have HA6:=Z hA6
     have HBb6:=Z hB6
     have HN6:=Z hn6
     clear hR5 hA5 hL5 hn5 hR6 hA6 hL6 hB6 hn6 hb5 HB4 HB5 HR4 HA4 HL4 HN4 HRt
     go_wp2_with fail
     exact retV HR6.out rfl rfl ⟨rfl,HSet.out _ _ _ _ HB6.out⟩
  | false =>
   obtain ⟨h1,h2⟩:a.miss=false/\b.miss=false:=by simpa using hm
   have g0:(a.kind == 0)=false:=h1
   have g1:(b.kind == 0)=false:=h2
   have HPo:Hid (Pl.ap2 op a b=Pl.reckon op a.n b.n):=by
    unfold Hid Pl.ap2
    rw [if_neg (by omega),if_neg (by simp [h1,h2]),if_pos (by omega)]
   rw [HPo.out]
   have HRk:=Z (fun W=>reckonR op (by omega) (by omega) a.n b.n W ha.range hb.range)
   generalize Pl.reckon op a.n b.n=oo at *
   obtain ⟨ox,oy,oz,oer,hsh⟩:=outE_shape oo
   rw [hsh] at HRk ⊢
   clear hsh
   clear HPo hm ha hb h1 h2
   obtain rfl|rfl:op=9\/op=10:=hop
   all_goals simp [signB,signs] at hx0
   all_goals simp [signB,signs] at HRk
   all_goals
    go_enter Tryz.func134,Tryz.ntmps134
    go_wp2_with fail
    refine (U HL).mono ?_
    rintro e w1 ⟨rfl,hb1⟩
    simp only [outE,aggR,Pl.nul]
    have hR:=bB hb1 (by simp) (blk_new w zeroO)
    have HB1:=Z (HB0.out.trans (hb1.mono HB0.out.size))
    have hn1:=bB hb1 (lB HN.out) HN.out
    clear HL hx0 hx1
    go_upto_region 8 with fail
    have hA:=blk_new w1 (.cells #[.int .i64 a.kind,.int .i64 a.n,.string ⟨a.s.toArray⟩] 34)
    have hR2:=bA hR (.cells #[.int .i64 a.kind,.int .i64 a.n,.string ⟨a.s.toArray⟩] 34)
    have hn2:=bA hn1 (.cells #[.int .i64 a.kind,.int .i64 a.n,.string ⟨a.s.toArray⟩] 34)
    have HB2:=Z (HB1.out.alloc HB1.out.size (.cells #[.int .i64 a.kind,.int .i64 a.n,.string ⟨a.s.toArray⟩] 34))
    generalize w1.alloc (.cells #[.int .i64 a.kind,.int .i64 a.n,.string ⟨a.s.toArray⟩] 34)=w2 at *
    generalize w1.heap.size=A at *
    obtain ⟨yrz,yr0,yr1,yr2,yrf0,yrf1,yrf2⟩:=blk3 hR2
    obtain ⟨yaz,ya0,ya1,ya2,-⟩:=blk3 hA
    obtain ⟨ynz,yn0,yn2⟩:=blkN hn2
    simp [signB,signs] at yn0
    have HR2:=Z hR2
    have HA2:=Z hA
    have HN2:=Z hn2
    clear hA hR2 hn2 hb1 hR hn1 HB1
    go_wp2_with fail
    refine (truthR false w2).mono ?_
    rintro e w3 ⟨rfl,hb3⟩
    simp only [aggR,Pl.tru,if_true]
    try simp only [Bool.false_eq_true,if_false]
    have hR3:=bB hb3 yrz HR2.out
    have hA3:=bB hb3 yaz HA2.out
    have hn3:=bB hb3 ynz HN2.out
    have HB3:=Z (HB2.out.trans (hb3.mono HB2.out.size))
    clear yrz yr0 yr1 yr2 yrf0 yrf1 yrf2 yaz ya0 ya1 ya2 ynz yn0 yn2
    go_upto_region 24 with fail
    have hR4:=bA hR3 (.cells #[.int .i64 3,.int .i64 0,.string ⟨#[]⟩] 34)
    have hA4:=bA hA3 (.cells #[.int .i64 3,.int .i64 0,.string ⟨#[]⟩] 34)
    have hL4:=blk_new w3 (.cells #[.int .i64 3,.int .i64 0,.string ⟨#[]⟩] 34)
    have hn4:=bA hn3 (.cells #[.int .i64 3,.int .i64 0,.string ⟨#[]⟩] 34)
    have HB4:=Z (HB3.out.alloc HB3.out.size (.cells #[.int .i64 3,.int .i64 0,.string ⟨#[]⟩] 34))
    generalize w3.alloc (.cells #[.int .i64 3,.int .i64 0,.string ⟨#[]⟩] 34)=w4 at *
    generalize w3.heap.size=L at *
    obtain ⟨yrz,yr0,yr1,yr2,yrf0,yrf1,yrf2⟩:=blk3 hR4
    obtain ⟨yaz,ya0,ya1,ya2,-⟩:=blk3 hA4
    obtain ⟨ylz,yl0,yl1,yl2,-⟩:=blk3 hL4
    obtain ⟨ynz,yn0,yn2⟩:=blkN hn4
    simp [signB,signs] at yn0
    have HR4:=Z hR4
    have HA4:=Z hA4
    have HL4:=Z hL4
    have HN4:=Z hn4
    clear hR3 hA3 hn3 hR4 hA4 hL4 hn4 hb3 HB2 HB3 HR2 HA2 HN2
    go_wp2_with fail
    refine ((U HRt) w4 HB4.out).mono ?_
    rintro e w5 ⟨rfl,hb5⟩
    simp only [outE,aggR,Pl.nul]
    have hR5:=bB hb5 yrz HR4.out
    have hA5:=bB hb5 yaz HA4.out
    have hL5:=bB hb5 ylz HL4.out
    have hn5:=bB hb5 ynz HN4.out
    have HB5:=Z (HB4.out.trans (hb5.mono HB4.out.size))
    clear yrz yr0 yr1 yr2 yrf0 yrf1 yrf2 yaz ya0 ya1 ya2 ylz yl0 yl1 yl2 ynz yn0 yn2
    go_upto_region 27 with fail
    have hR6:=bA hR5 (.cells #[.int .i64 b.kind,.int .i64 b.n,.string ⟨b.s.toArray⟩] 34)
    have hA6:=bA hA5 (.cells #[.int .i64 b.kind,.int .i64 b.n,.string ⟨b.s.toArray⟩] 34)
    have hL6:=bA hL5 (.cells #[.int .i64 b.kind,.int .i64 b.n,.string ⟨b.s.toArray⟩] 34)
    have hB6:=blk_new w5 (.cells #[.int .i64 b.kind,.int .i64 b.n,.string ⟨b.s.toArray⟩] 34)
    have hn6:=bA hn5 (.cells #[.int .i64 b.kind,.int .i64 b.n,.string ⟨b.s.toArray⟩] 34)
    have HB6:=Z (HB5.out.alloc HB5.out.size (.cells #[.int .i64 b.kind,.int .i64 b.n,.string ⟨b.s.toArray⟩] 34))
    generalize w5.alloc (.cells #[.int .i64 b.kind,.int .i64 b.n,.string ⟨b.s.toArray⟩] 34)=w6 at *
    generalize w5.heap.size=B at *
    obtain ⟨yrz,yr0,yr1,yr2,yrf0,yrf1,yrf2⟩:=blk3 hR6
    obtain ⟨yaz,ya0,ya1,ya2,-⟩:=blk3 hA6
    obtain ⟨ylz,yl0,yl1,yl2,-⟩:=blk3 hL6
    obtain ⟨ybz,yb0,yb1,yb2,-⟩:=blk3 hB6
    obtain ⟨ynz,yn0,-⟩:=blkN hn6
    simp [signB,signs] at yn0
    have HR6:=Z hR6
    have HA6:=Z hA6
    have HBb6:=Z hB6
    have HN6:=Z hn6
    clear hR5 hA5 hL5 hn5 hR6 hA6 hL6 hB6 hn6 hb5 HB4 HB5 HR4 HA4 HL4 HN4 HRt
    go_wp2_with fail
    refine (orderR a b w6).mono ?_
    rintro e w7 ⟨rfl,hb7⟩
    have hR7:=bB hb7 yrz HR6.out
    have hA7:=bB hb7 yaz HA6.out
    have hB7:=bB hb7 ybz HBb6.out
    have hn7:=bB hb7 ynz HN6.out
    have HB7:=Z (HB6.out.trans (hb7.mono HB6.out.size))
    generalize Pl.ordR a b=oc at *
    clear yrz yr0 yr1 yr2 yrf0 yrf1 yrf2 yaz ya0 ya1 ya2 ylz yl0 yl1 yl2 ybz yb0 yb1 yb2 ynz yn0
    obtain ⟨yrz,yr0,yr1,yr2,yrf0,yrf1,yrf2⟩:=blk3 hR7
    obtain ⟨yaz,ya0,ya1,ya2,-⟩:=blk3 hA7
    obtain ⟨ybz,yb0,yb1,yb2,-⟩:=blk3 hB7
    obtain ⟨ynz,yn0,-⟩:=blkN hn7
    simp [signB,signs] at yn0
    have HR7:=Z hR7
    clear hb7 hA7 hB7 hn7 hR7 HB6 HR6 HA6 HBb6 HN6
    go_upto_region 49 with fail
    have HCl:=Z (rk_cl (U HRk) HR7.out HB7.out)
    go_region_law (refine step_call3 rfl 193 (.tmp 202) (.tmp 204) (.tmp 206) _ rfl _ _ _ (ent_reckon _ _) (by simp [Act.eval,Act.put]) (by simp [Act.eval,Act.put]) (by simp [Act.eval,Act.put]) _ (U HCl) ?_
                   rintro v8 w8 ⟨rfl,hR8,hb8⟩
                   obtain ⟨yz8,y80,y81,y82,yf0,yf1,yf2⟩:=blk3 hR8
                   have HR8:=Z hR8
                   have HB8:=Z hb8
                   clear hR8 hb8)
    all_goals go_wp2_with fail
    all_goals exact retV HR8.out rfl rfl ⟨rfl,HSet.out _ _ _ _ HB8.out⟩
theorem valueCmpA (op:Nat)(hop:op=11\/op=12\/op=13)(a:Pl.V)(o1 o2:Pl.Out Pl.V)(ho1:o1=.ok a)(ho2:∀ b,o2=.ok b->a.miss=false->b.miss=false->Pl.ordR a b=Pl.order a b)(he2:∀ e,o2=.error e->e≠0)(n:Nat)(al ar:Addr)(kd m:Int)(s src name:List UInt8)(v:Value)(w:World)(hn:w.heap[n]?=some (nodeO op (.pointer (some al)) (.pointer (some ar)) kd m s src name))(hl:VaC o1 v (.pointer (some al)) w)(hr:VaC o2 v (.pointer (some ar)) w)(hv:∃ a l c,v=.slice a l c) :
 Calls Tryz.prog 134 #[.pointer (some ⟨n,0,none⟩),v] w fun e w'=>e=.returned (outE (Pl.snd2 op a o2))/\Below w.heap.size w w':=by
 subst ho1
 obtain ⟨va,vn,vc,rfl⟩:=hv
 have hnl:=lB hn
 have hB0:Below w.heap.size w (w.alloc zeroO):=(Below.refl _ _).alloc (Nat.le_refl _) _
 have HL:=Z (hl (w.alloc zeroO) hB0)
 have HRt:=Z hr
 have HN:=Z (bA hn zeroO)
 have HB0:=Z hB0
 have hx0:=bC hn 0
 have hx1:=bC hn 1
 simp at hx0 hx1
 clear hl hn hB0 hr
 have HSet:Hid (∀ w1 x y z,Below w.heap.size w w1->Below w.heap.size w (((w1.setCell ⟨w.heap.size,0,none⟩ x).setCell ⟨w.heap.size,1,none⟩ y).setCell ⟨w.heap.size,2,none⟩ z)):=fun w1 x y z hb=>((hb.setCell (Nat.le_refl _) _).setCell (Nat.le_refl _) _).setCell (Nat.le_refl _) _
 cases o2 with
 | error er =>
  simp only [Pl.snd2]
  have her:(((er:Nat):Int) != 0)=true:=by have:=he2 er rfl;simp;omega
  clear ho2 he2
  obtain rfl|rfl|rfl:op=11\/op=12\/op=13:=hop
  all_goals
   simp [signB,signs] at hx0
   go_enter Tryz.func134,Tryz.ntmps134
   go_wp2_with fail
   refine (U HL).mono ?_
   rintro e w1 ⟨rfl,hb1⟩
   simp only [outE,aggR,Pl.nul]
   have hR:=bB hb1 (by simp) (blk_new w zeroO)
   have HB1:=Z (HB0.out.trans (hb1.mono HB0.out.size))
   have hn1:=bB hb1 (lB HN.out) HN.out
   clear HL hx0 hx1
   go_upto_region 8 with fail
   have hA:=blk_new w1 (.cells #[.int .i64 a.kind,.int .i64 a.n,.string ⟨a.s.toArray⟩] 34)
   have hR2:=bA hR (.cells #[.int .i64 a.kind,.int .i64 a.n,.string ⟨a.s.toArray⟩] 34)
   have hn2:=bA hn1 (.cells #[.int .i64 a.kind,.int .i64 a.n,.string ⟨a.s.toArray⟩] 34)
   have HB2:=Z (HB1.out.alloc HB1.out.size (.cells #[.int .i64 a.kind,.int .i64 a.n,.string ⟨a.s.toArray⟩] 34))
   generalize w1.alloc (.cells #[.int .i64 a.kind,.int .i64 a.n,.string ⟨a.s.toArray⟩] 34)=w2 at *
   generalize w1.heap.size=A at *
   obtain ⟨yrz,yr0,yr1,yr2,yrf0,yrf1,yrf2⟩:=blk3 hR2
   obtain ⟨yaz,ya0,ya1,ya2,-⟩:=blk3 hA
   obtain ⟨ynz,yn0,yn2⟩:=blkN hn2
   simp [signB,signs] at yn0
   have HR2:=Z hR2
   have HA2:=Z hA
   have HN2:=Z hn2
   clear hA hR2 hn2 hb1 hR hn1 HB1
   go_wp2_with fail
   refine (truthR false w2).mono ?_
   rintro e w3 ⟨rfl,hb3⟩
   simp only [aggR,Pl.tru,if_true]
   try simp only [Bool.false_eq_true,if_false]
   have hR3:=bB hb3 yrz HR2.out
   have hA3:=bB hb3 yaz HA2.out
   have hn3:=bB hb3 ynz HN2.out
   have HB3:=Z (HB2.out.trans (hb3.mono HB2.out.size))
   clear yrz yr0 yr1 yr2 yrf0 yrf1 yrf2 yaz ya0 ya1 ya2 ynz yn0 yn2
   go_upto_region 24 with fail
   have hR4:=bA hR3 (.cells #[.int .i64 3,.int .i64 0,.string ⟨#[]⟩] 34)
   have hA4:=bA hA3 (.cells #[.int .i64 3,.int .i64 0,.string ⟨#[]⟩] 34)
   have hL4:=blk_new w3 (.cells #[.int .i64 3,.int .i64 0,.string ⟨#[]⟩] 34)
   have hn4:=bA hn3 (.cells #[.int .i64 3,.int .i64 0,.string ⟨#[]⟩] 34)
   have HB4:=Z (HB3.out.alloc HB3.out.size (.cells #[.int .i64 3,.int .i64 0,.string ⟨#[]⟩] 34))
   generalize w3.alloc (.cells #[.int .i64 3,.int .i64 0,.string ⟨#[]⟩] 34)=w4 at *
   generalize w3.heap.size=L at *
   obtain ⟨yrz,yr0,yr1,yr2,yrf0,yrf1,yrf2⟩:=blk3 hR4
   obtain ⟨yaz,ya0,ya1,ya2,-⟩:=blk3 hA4
   obtain ⟨ylz,yl0,yl1,yl2,-⟩:=blk3 hL4
   obtain ⟨ynz,yn0,yn2⟩:=blkN hn4
   simp [signB,signs] at yn0
   have HR4:=Z hR4
   have HA4:=Z hA4
   have HL4:=Z hL4
   have HN4:=Z hn4
   clear hR3 hA3 hn3 hR4 hA4 hL4 hn4 hb3 HB2 HB3 HR2 HA2 HN2
   go_wp2_with fail
   refine ((U HRt) w4 HB4.out).mono ?_
   rintro e w5 ⟨rfl,hb5⟩
   simp only [outE,aggR,Pl.nul]
   have hR5:=bB hb5 yrz HR4.out
   have hA5:=bB hb5 yaz HA4.out
   have hL5:=bB hb5 ylz HL4.out
   have hn5:=bB hb5 ynz HN4.out
   have HB5:=Z (HB4.out.trans (hb5.mono HB4.out.size))
   clear yrz yr0 yr1 yr2 yrf0 yrf1 yrf2 yaz ya0 ya1 ya2 ylz yl0 yl1 yl2 ynz yn0 yn2
   go_upto_region 27 with fail
   have hR6:=bA hR5 (.cells #[.int .i64 0,.int .i64 0,.string ⟨#[]⟩] 34)
   have hA6:=bA hA5 (.cells #[.int .i64 0,.int .i64 0,.string ⟨#[]⟩] 34)
   have hL6:=bA hL5 (.cells #[.int .i64 0,.int .i64 0,.string ⟨#[]⟩] 34)
   have hB6:=blk_new w5 (.cells #[.int .i64 0,.int .i64 0,.string ⟨#[]⟩] 34)
   have hn6:=bA hn5 (.cells #[.int .i64 0,.int .i64 0,.string ⟨#[]⟩] 34)
   have HB6:=Z (HB5.out.alloc HB5.out.size (.cells #[.int .i64 0,.int .i64 0,.string ⟨#[]⟩] 34))
   generalize w5.alloc (.cells #[.int .i64 0,.int .i64 0,.string ⟨#[]⟩] 34)=w6 at *
   generalize w5.heap.size=B at *
   obtain ⟨yrz,yr0,yr1,yr2,yrf0,yrf1,yrf2⟩:=blk3 hR6
   obtain ⟨yaz,ya0,ya1,ya2,-⟩:=blk3 hA6
   obtain ⟨ylz,yl0,yl1,yl2,-⟩:=blk3 hL6
   obtain ⟨ybz,yb0,yb1,yb2,-⟩:=blk3 hB6
   obtain ⟨ynz,yn0,-⟩:=blkN hn6
   simp [signB,signs] at yn0
   have HR6:=Z hR6
   have HA6:=Z hA6
   have HBb6:=Z hB6
   have HN6:=Z hn6
   clear hR5 hA5 hL5 hn5 hR6 hA6 hL6 hB6 hn6 hb5 HB4 HB5 HR4 HA4 HL4 HN4 HRt
   go_wp2_with fail
   exact retV HR6.out rfl rfl ⟨rfl,HSet.out _ _ _ _ HB6.out⟩
 | ok b =>
  simp only [Pl.snd2]
  have hor:=ho2 b rfl
  clear ho2 he2
  cases hm:(a.miss || b.miss) with
  | true =>
   have hm2:(a.kind == 0)=true\/((a.kind == 0)=false/\(b.kind == 0)=true):=by
    unfold Pl.V.miss at hm
    cases h1:(a.kind == 0) with
    | true=>exact .inl rfl
    | false=>rw [h1] at hm;exact .inr ⟨rfl,by simpa using hm⟩
   have HPo:Hid (Pl.ap2 op a b=.ok Pl.nul):=by
    unfold Hid Pl.ap2
    rw [if_neg (by omega),if_pos hm]
   rw [HPo.out]
   clear HPo hm hor
   obtain rfl|rfl|rfl:op=11\/op=12\/op=13:=hop
   all_goals
    simp [signB,signs] at hx0
    rcases hm2 with g0|⟨g0,g1⟩
    all_goals
     go_enter Tryz.func134,Tryz.ntmps134
     go_wp2_with fail
     refine (U HL).mono ?_
     rintro e w1 ⟨rfl,hb1⟩
     simp only [outE,aggR,Pl.nul]
     have hR:=bB hb1 (by simp) (blk_new w zeroO)
     have HB1:=Z (HB0.out.trans (hb1.mono HB0.out.size))
     have hn1:=bB hb1 (lB HN.out) HN.out
     clear HL hx0 hx1
     go_upto_region 8 with fail
     have hA:=blk_new w1 (.cells #[.int .i64 a.kind,.int .i64 a.n,.string ⟨a.s.toArray⟩] 34)
     have hR2:=bA hR (.cells #[.int .i64 a.kind,.int .i64 a.n,.string ⟨a.s.toArray⟩] 34)
     have hn2:=bA hn1 (.cells #[.int .i64 a.kind,.int .i64 a.n,.string ⟨a.s.toArray⟩] 34)
     have HB2:=Z (HB1.out.alloc HB1.out.size (.cells #[.int .i64 a.kind,.int .i64 a.n,.string ⟨a.s.toArray⟩] 34))
     generalize w1.alloc (.cells #[.int .i64 a.kind,.int .i64 a.n,.string ⟨a.s.toArray⟩] 34)=w2 at *
     generalize w1.heap.size=A at *
     obtain ⟨yrz,yr0,yr1,yr2,yrf0,yrf1,yrf2⟩:=blk3 hR2
     obtain ⟨yaz,ya0,ya1,ya2,-⟩:=blk3 hA
     obtain ⟨ynz,yn0,yn2⟩:=blkN hn2
     simp [signB,signs] at yn0
     have HR2:=Z hR2
     have HA2:=Z hA
     have HN2:=Z hn2
     clear hA hR2 hn2 hb1 hR hn1 HB1
     go_wp2_with fail
     refine (truthR false w2).mono ?_
     rintro e w3 ⟨rfl,hb3⟩
     simp only [aggR,Pl.tru,if_true]
     try simp only [Bool.false_eq_true,if_false]
     have hR3:=bB hb3 yrz HR2.out
     have hA3:=bB hb3 yaz HA2.out
     have hn3:=bB hb3 ynz HN2.out
     have HB3:=Z (HB2.out.trans (hb3.mono HB2.out.size))
     clear yrz yr0 yr1 yr2 yrf0 yrf1 yrf2 yaz ya0 ya1 ya2 ynz yn0 yn2
     go_upto_region 24 with fail
     have hR4:=bA hR3 (.cells #[.int .i64 3,.int .i64 0,.string ⟨#[]⟩] 34)
     have hA4:=bA hA3 (.cells #[.int .i64 3,.int .i64 0,.string ⟨#[]⟩] 34)
     have hL4:=blk_new w3 (.cells #[.int .i64 3,.int .i64 0,.string ⟨#[]⟩] 34)
     have hn4:=bA hn3 (.cells #[.int .i64 3,.int .i64 0,.string ⟨#[]⟩] 34)
     have HB4:=Z (HB3.out.alloc HB3.out.size (.cells #[.int .i64 3,.int .i64 0,.string ⟨#[]⟩] 34))
     generalize w3.alloc (.cells #[.int .i64 3,.int .i64 0,.string ⟨#[]⟩] 34)=w4 at *
     generalize w3.heap.size=L at *
     obtain ⟨yrz,yr0,yr1,yr2,yrf0,yrf1,yrf2⟩:=blk3 hR4
     obtain ⟨yaz,ya0,ya1,ya2,-⟩:=blk3 hA4
     obtain ⟨ylz,yl0,yl1,yl2,-⟩:=blk3 hL4
     obtain ⟨ynz,yn0,yn2⟩:=blkN hn4
     simp [signB,signs] at yn0
     have HR4:=Z hR4
     have HA4:=Z hA4
     have HL4:=Z hL4
     have HN4:=Z hn4
     clear hR3 hA3 hn3 hR4 hA4 hL4 hn4 hb3 HB2 HB3 HR2 HA2 HN2
     go_wp2_with fail
     refine ((U HRt) w4 HB4.out).mono ?_
     rintro e w5 ⟨rfl,hb5⟩
     simp only [outE,aggR,Pl.nul]
     have hR5:=bB hb5 yrz HR4.out
     have hA5:=bB hb5 yaz HA4.out
     have hL5:=bB hb5 ylz HL4.out
     have hn5:=bB hb5 ynz HN4.out
     have HB5:=Z (HB4.out.trans (hb5.mono HB4.out.size))
     clear yrz yr0 yr1 yr2 yrf0 yrf1 yrf2 yaz ya0 ya1 ya2 ylz yl0 yl1 yl2 ynz yn0 yn2
     go_upto_region 27 with fail
     have hR6:=bA hR5 (.cells #[.int .i64 b.kind,.int .i64 b.n,.string ⟨b.s.toArray⟩] 34)
     have hA6:=bA hA5 (.cells #[.int .i64 b.kind,.int .i64 b.n,.string ⟨b.s.toArray⟩] 34)
     have hL6:=bA hL5 (.cells #[.int .i64 b.kind,.int .i64 b.n,.string ⟨b.s.toArray⟩] 34)
     have hB6:=blk_new w5 (.cells #[.int .i64 b.kind,.int .i64 b.n,.string ⟨b.s.toArray⟩] 34)
     have hn6:=bA hn5 (.cells #[.int .i64 b.kind,.int .i64 b.n,.string ⟨b.s.toArray⟩] 34)
     have HB6:=Z (HB5.out.alloc HB5.out.size (.cells #[.int .i64 b.kind,.int .i64 b.n,.string ⟨b.s.toArray⟩] 34))
     generalize w5.alloc (.cells #[.int .i64 b.kind,.int .i64 b.n,.string ⟨b.s.toArray⟩] 34)=w6 at *
     generalize w5.heap.size=B at *
     obtain ⟨yrz,yr0,yr1,yr2,yrf0,yrf1,yrf2⟩:=blk3 hR6
     obtain ⟨yaz,ya0,ya1,ya2,-⟩:=blk3 hA6
     obtain ⟨ylz,yl0,yl1,yl2,-⟩:=blk3 hL6
     obtain ⟨ybz,yb0,yb1,yb2,-⟩:=blk3 hB6
     obtain ⟨ynz,yn0,-⟩:=blkN hn6
     simp [signB,signs] at yn0
     have HR6:=Z hR6
     have HA6:=Z hA6
     have HBb6:=Z hB6
     have HN6:=Z hn6
     clear hR5 hA5 hL5 hn5 hR6 hA6 hL6 hB6 hn6 hb5 HB4 HB5 HR4 HA4 HL4 HN4 HRt
     go_wp2_with fail
     exact retV HR6.out rfl rfl ⟨rfl,HSet.out _ _ _ _ HB6.out⟩
  | false =>
   obtain ⟨h1,h2⟩:a.miss=false/\b.miss=false:=by simpa using hm
   have g0:(a.kind == 0)=false:=h1
   have g1:(b.kind == 0)=false:=h2
   have HPo:Hid (Pl.ap2 op a b=.ok (Pl.tru (Pl.holds op (Pl.ordR a b)))):=by
    unfold Hid Pl.ap2
    rw [if_neg (by omega),if_neg (by simp [h1,h2]),if_neg (by omega),hor h1 h2]
   rw [HPo.out]
   have HOr:=Z (fun W=>orderR a b W)
   generalize Pl.ordR a b=oc at *
   have HTr:=Z (fun W=>truthR (Pl.holds op oc) W)
   generalize Pl.tru (Pl.holds op oc)=tv at *
   clear HPo hm h1 h2 hor
   obtain rfl|rfl|rfl:op=11\/op=12\/op=13:=hop
   all_goals
    simp [signB,signs] at hx0
    simp only [Pl.holds,if_pos,reduceIte,Nat.reduceEqDiff] at HTr
    go_enter Tryz.func134,Tryz.ntmps134
    go_wp2_with fail
    refine (U HL).mono ?_
    rintro e w1 ⟨rfl,hb1⟩
    simp only [outE,aggR,Pl.nul]
    have hR:=bB hb1 (by simp) (blk_new w zeroO)
    have HB1:=Z (HB0.out.trans (hb1.mono HB0.out.size))
    have hn1:=bB hb1 (lB HN.out) HN.out
    clear HL hx0 hx1
    go_upto_region 8 with fail
    have hA:=blk_new w1 (.cells #[.int .i64 a.kind,.int .i64 a.n,.string ⟨a.s.toArray⟩] 34)
    have hR2:=bA hR (.cells #[.int .i64 a.kind,.int .i64 a.n,.string ⟨a.s.toArray⟩] 34)
    have hn2:=bA hn1 (.cells #[.int .i64 a.kind,.int .i64 a.n,.string ⟨a.s.toArray⟩] 34)
    have HB2:=Z (HB1.out.alloc HB1.out.size (.cells #[.int .i64 a.kind,.int .i64 a.n,.string ⟨a.s.toArray⟩] 34))
    generalize w1.alloc (.cells #[.int .i64 a.kind,.int .i64 a.n,.string ⟨a.s.toArray⟩] 34)=w2 at *
    generalize w1.heap.size=A at *
    obtain ⟨yrz,yr0,yr1,yr2,yrf0,yrf1,yrf2⟩:=blk3 hR2
    obtain ⟨yaz,ya0,ya1,ya2,-⟩:=blk3 hA
    obtain ⟨ynz,yn0,yn2⟩:=blkN hn2
    simp [signB,signs] at yn0
    have HR2:=Z hR2
    have HA2:=Z hA
    have HN2:=Z hn2
    clear hA hR2 hn2 hb1 hR hn1 HB1
    go_wp2_with fail
    refine (truthR false w2).mono ?_
    rintro e w3 ⟨rfl,hb3⟩
    simp only [aggR,Pl.tru,if_true]
    try simp only [Bool.false_eq_true,if_false]
    have hR3:=bB hb3 yrz HR2.out
    have hA3:=bB hb3 yaz HA2.out
    have hn3:=bB hb3 ynz HN2.out
    have HB3:=Z (HB2.out.trans (hb3.mono HB2.out.size))
    clear yrz yr0 yr1 yr2 yrf0 yrf1 yrf2 yaz ya0 ya1 ya2 ynz yn0 yn2
    go_upto_region 24 with fail
    have hR4:=bA hR3 (.cells #[.int .i64 3,.int .i64 0,.string ⟨#[]⟩] 34)
    have hA4:=bA hA3 (.cells #[.int .i64 3,.int .i64 0,.string ⟨#[]⟩] 34)
    have hL4:=blk_new w3 (.cells #[.int .i64 3,.int .i64 0,.string ⟨#[]⟩] 34)
    have hn4:=bA hn3 (.cells #[.int .i64 3,.int .i64 0,.string ⟨#[]⟩] 34)
    have HB4:=Z (HB3.out.alloc HB3.out.size (.cells #[.int .i64 3,.int .i64 0,.string ⟨#[]⟩] 34))
    generalize w3.alloc (.cells #[.int .i64 3,.int .i64 0,.string ⟨#[]⟩] 34)=w4 at *
    generalize w3.heap.size=L at *
    obtain ⟨yrz,yr0,yr1,yr2,yrf0,yrf1,yrf2⟩:=blk3 hR4
    obtain ⟨yaz,ya0,ya1,ya2,-⟩:=blk3 hA4
    obtain ⟨ylz,yl0,yl1,yl2,-⟩:=blk3 hL4
    obtain ⟨ynz,yn0,yn2⟩:=blkN hn4
    simp [signB,signs] at yn0
    have HR4:=Z hR4
    have HA4:=Z hA4
    have HL4:=Z hL4
    have HN4:=Z hn4
    clear hR3 hA3 hn3 hR4 hA4 hL4 hn4 hb3 HB2 HB3 HR2 HA2 HN2
    go_wp2_with fail
    refine ((U HRt) w4 HB4.out).mono ?_
    rintro e w5 ⟨rfl,hb5⟩
    simp only [outE,aggR,Pl.nul]
    have hR5:=bB hb5 yrz HR4.out
    have hA5:=bB hb5 yaz HA4.out
    have hL5:=bB hb5 ylz HL4.out
    have hn5:=bB hb5 ynz HN4.out
    have HB5:=Z (HB4.out.trans (hb5.mono HB4.out.size))
    clear yrz yr0 yr1 yr2 yrf0 yrf1 yrf2 yaz ya0 ya1 ya2 ylz yl0 yl1 yl2 ynz yn0 yn2
    go_upto_region 27 with fail
    have hR6:=bA hR5 (.cells #[.int .i64 b.kind,.int .i64 b.n,.string ⟨b.s.toArray⟩] 34)
    have hA6:=bA hA5 (.cells #[.int .i64 b.kind,.int .i64 b.n,.string ⟨b.s.toArray⟩] 34)
    have hL6:=bA hL5 (.cells #[.int .i64 b.kind,.int .i64 b.n,.string ⟨b.s.toArray⟩] 34)
    have hB6:=blk_new w5 (.cells #[.int .i64 b.kind,.int .i64 b.n,.string ⟨b.s.toArray⟩] 34)
    have hn6:=bA hn5 (.cells #[.int .i64 b.kind,.int .i64 b.n,.string ⟨b.s.toArray⟩] 34)
    have HB6:=Z (HB5.out.alloc HB5.out.size (.cells #[.int .i64 b.kind,.int .i64 b.n,.string ⟨b.s.toArray⟩] 34))
    generalize w5.alloc (.cells #[.int .i64 b.kind,.int .i64 b.n,.string ⟨b.s.toArray⟩] 34)=w6 at *
    generalize w5.heap.size=B at *
    obtain ⟨yrz,yr0,yr1,yr2,yrf0,yrf1,yrf2⟩:=blk3 hR6
    obtain ⟨yaz,ya0,ya1,ya2,-⟩:=blk3 hA6
    obtain ⟨ylz,yl0,yl1,yl2,-⟩:=blk3 hL6
    obtain ⟨ybz,yb0,yb1,yb2,-⟩:=blk3 hB6
    obtain ⟨ynz,yn0,-⟩:=blkN hn6
    simp [signB,signs] at yn0
    have HR6:=Z hR6
    have HA6:=Z hA6
    have HBb6:=Z hB6
    have HN6:=Z hn6
    clear hR5 hA5 hL5 hn5 hR6 hA6 hL6 hB6 hn6 hb5 HB4 HB5 HR4 HA4 HL4 HN4 HRt
    go_wp2_with fail
    refine ((U HOr) w6).mono ?_
    rintro e w7 ⟨rfl,hb7⟩
    have hR7:=bB hb7 yrz HR6.out
    have hn7:=bB hb7 ynz HN6.out
    have HB7:=Z (HB6.out.trans (hb7.mono HB6.out.size))
    clear yrz yr0 yr1 yr2 yrf0 yrf1 yrf2 yaz ya0 ya1 ya2 ylz yl0 yl1 yl2 ybz yb0 yb1 yb2 ynz yn0
    obtain ⟨yrz,yr0,yr1,yr2,yrf0,yrf1,yrf2⟩:=blk3 hR7
    obtain ⟨ynz,yn0,-⟩:=blkN hn7
    simp [signB,signs] at yn0
    have HR7:=Z hR7
    clear hb7 hn7 hR7 HB6 HR6 HA6 HBb6 HN6 HOr
    go_wp2_with fail
    refine ((U HTr) w7).mono ?_
    rintro e w8 ⟨rfl,hb8⟩
    simp only [aggR]
    have hR8:=bB hb8 yrz HR7.out
    have HB8:=Z (HB7.out.trans (hb8.mono HB7.out.size))
    clear yrz yr0 yr1 yr2 yrf0 yrf1 yrf2 ynz yn0
    obtain ⟨yrz,yr0,yr1,yr2,yrf0,yrf1,yrf2⟩:=blk3 hR8
    have HR8:=Z hR8
    clear hb8 hR8
    go_wp2_with fail
    exact retV HR8.out rfl rfl ⟨rfl,HSet.out _ _ _ _ HB8.out⟩
theorem valueCmpB (op:Nat)(hop:op=14\/op=15\/op=16)(a:Pl.V)(o1 o2:Pl.Out Pl.V)(ho1:o1=.ok a)(ho2:∀ b,o2=.ok b->a.miss=false->b.miss=false->Pl.ordR a b=Pl.order a b)(he2:∀ e,o2=.error e->e≠0)(n:Nat)(al ar:Addr)(kd m:Int)(s src name:List UInt8)(v:Value)(w:World)(hn:w.heap[n]?=some (nodeO op (.pointer (some al)) (.pointer (some ar)) kd m s src name))(hl:VaC o1 v (.pointer (some al)) w)(hr:VaC o2 v (.pointer (some ar)) w)(hv:∃ a l c,v=.slice a l c) :
 Calls Tryz.prog 134 #[.pointer (some ⟨n,0,none⟩),v] w fun e w'=>e=.returned (outE (Pl.snd2 op a o2))/\Below w.heap.size w w':=by
 subst ho1
 obtain ⟨va,vn,vc,rfl⟩:=hv
 have hnl:=lB hn
 have hB0:Below w.heap.size w (w.alloc zeroO):=(Below.refl _ _).alloc (Nat.le_refl _) _
 have HL:=Z (hl (w.alloc zeroO) hB0)
 have HRt:=Z hr
 have HN:=Z (bA hn zeroO)
 have HB0:=Z hB0
 have hx0:=bC hn 0
 have hx1:=bC hn 1
 simp at hx0 hx1
 clear hl hn hB0 hr
 have HSet:Hid (∀ w1 x y z,Below w.heap.size w w1->Below w.heap.size w (((w1.setCell ⟨w.heap.size,0,none⟩ x).setCell ⟨w.heap.size,1,none⟩ y).setCell ⟨w.heap.size,2,none⟩ z)):=fun w1 x y z hb=>((hb.setCell (Nat.le_refl _) _).setCell (Nat.le_refl _) _).setCell (Nat.le_refl _) _
 cases o2 with
 | error er =>
  simp only [Pl.snd2]
  have her:(((er:Nat):Int) != 0)=true:=by have:=he2 er rfl;simp;omega
  clear ho2 he2
  obtain rfl|rfl|rfl:op=14\/op=15\/op=16:=hop
  all_goals
   simp [signB,signs] at hx0
   go_enter Tryz.func134,Tryz.ntmps134
   go_wp2_with fail
   refine (U HL).mono ?_
   rintro e w1 ⟨rfl,hb1⟩
   simp only [outE,aggR,Pl.nul]
   have hR:=bB hb1 (by simp) (blk_new w zeroO)
   have HB1:=Z (HB0.out.trans (hb1.mono HB0.out.size))
   have hn1:=bB hb1 (lB HN.out) HN.out
   clear HL hx0 hx1
   go_upto_region 8 with fail
   have hA:=blk_new w1 (.cells #[.int .i64 a.kind,.int .i64 a.n,.string ⟨a.s.toArray⟩] 34)
   have hR2:=bA hR (.cells #[.int .i64 a.kind,.int .i64 a.n,.string ⟨a.s.toArray⟩] 34)
   have hn2:=bA hn1 (.cells #[.int .i64 a.kind,.int .i64 a.n,.string ⟨a.s.toArray⟩] 34)
   have HB2:=Z (HB1.out.alloc HB1.out.size (.cells #[.int .i64 a.kind,.int .i64 a.n,.string ⟨a.s.toArray⟩] 34))
   generalize w1.alloc (.cells #[.int .i64 a.kind,.int .i64 a.n,.string ⟨a.s.toArray⟩] 34)=w2 at *
   generalize w1.heap.size=A at *
   obtain ⟨yrz,yr0,yr1,yr2,yrf0,yrf1,yrf2⟩:=blk3 hR2
   obtain ⟨yaz,ya0,ya1,ya2,-⟩:=blk3 hA
   obtain ⟨ynz,yn0,yn2⟩:=blkN hn2
   simp [signB,signs] at yn0
   have HR2:=Z hR2
   have HA2:=Z hA
   have HN2:=Z hn2
   clear hA hR2 hn2 hb1 hR hn1 HB1
   go_wp2_with fail
   refine (truthR false w2).mono ?_
   rintro e w3 ⟨rfl,hb3⟩
   simp only [aggR,Pl.tru,if_true]
   try simp only [Bool.false_eq_true,if_false]
   have hR3:=bB hb3 yrz HR2.out
   have hA3:=bB hb3 yaz HA2.out
   have hn3:=bB hb3 ynz HN2.out
   have HB3:=Z (HB2.out.trans (hb3.mono HB2.out.size))
   clear yrz yr0 yr1 yr2 yrf0 yrf1 yrf2 yaz ya0 ya1 ya2 ynz yn0 yn2
   go_upto_region 24 with fail
   have hR4:=bA hR3 (.cells #[.int .i64 3,.int .i64 0,.string ⟨#[]⟩] 34)
   have hA4:=bA hA3 (.cells #[.int .i64 3,.int .i64 0,.string ⟨#[]⟩] 34)
   have hL4:=blk_new w3 (.cells #[.int .i64 3,.int .i64 0,.string ⟨#[]⟩] 34)
   have hn4:=bA hn3 (.cells #[.int .i64 3,.int .i64 0,.string ⟨#[]⟩] 34)
   have HB4:=Z (HB3.out.alloc HB3.out.size (.cells #[.int .i64 3,.int .i64 0,.string ⟨#[]⟩] 34))
   generalize w3.alloc (.cells #[.int .i64 3,.int .i64 0,.string ⟨#[]⟩] 34)=w4 at *
   generalize w3.heap.size=L at *
   obtain ⟨yrz,yr0,yr1,yr2,yrf0,yrf1,yrf2⟩:=blk3 hR4
   obtain ⟨yaz,ya0,ya1,ya2,-⟩:=blk3 hA4
   obtain ⟨ylz,yl0,yl1,yl2,-⟩:=blk3 hL4
   obtain ⟨ynz,yn0,yn2⟩:=blkN hn4
   simp [signB,signs] at yn0
   have HR4:=Z hR4
   have HA4:=Z hA4
   have HL4:=Z hL4
   have HN4:=Z hn4
   clear hR3 hA3 hn3 hR4 hA4 hL4 hn4 hb3 HB2 HB3 HR2 HA2 HN2
   go_wp2_with fail
   refine ((U HRt) w4 HB4.out).mono ?_
   rintro e w5 ⟨rfl,hb5⟩
   simp only [outE,aggR,Pl.nul]
   have hR5:=bB hb5 yrz HR4.out
   have hA5:=bB hb5 yaz HA4.out
   have hL5:=bB hb5 ylz HL4.out
   have hn5:=bB hb5 ynz HN4.out
   have HB5:=Z (HB4.out.trans (hb5.mono HB4.out.size))
   clear yrz yr0 yr1 yr2 yrf0 yrf1 yrf2 yaz ya0 ya1 ya2 ylz yl0 yl1 yl2 ynz yn0 yn2
   go_upto_region 27 with fail
   have hR6:=bA hR5 (.cells #[.int .i64 0,.int .i64 0,.string ⟨#[]⟩] 34)
   have hA6:=bA hA5 (.cells #[.int .i64 0,.int .i64 0,.string ⟨#[]⟩] 34)
   have hL6:=bA hL5 (.cells #[.int .i64 0,.int .i64 0,.string ⟨#[]⟩] 34)
   have hB6:=blk_new w5 (.cells #[.int .i64 0,.int .i64 0,.string ⟨#[]⟩] 34)
   have hn6:=bA hn5 (.cells #[.int .i64 0,.int .i64 0,.string ⟨#[]⟩] 34)
   have HB6:=Z (HB5.out.alloc HB5.out.size (.cells #[.int .i64 0,.int .i64 0,.string ⟨#[]⟩] 34))
   generalize w5.alloc (.cells #[.int .i64 0,.int .i64 0,.string ⟨#[]⟩] 34)=w6 at *
   generalize w5.heap.size=B at *
   obtain ⟨yrz,yr0,yr1,yr2,yrf0,yrf1,yrf2⟩:=blk3 hR6
   obtain ⟨yaz,ya0,ya1,ya2,-⟩:=blk3 hA6
   obtain ⟨ylz,yl0,yl1,yl2,-⟩:=blk3 hL6
   obtain ⟨ybz,yb0,yb1,yb2,-⟩:=blk3 hB6
   obtain ⟨ynz,yn0,-⟩:=blkN hn6
   simp [signB,signs] at yn0
   have HR6:=Z hR6
   have HA6:=Z hA6
   have HBb6:=Z hB6
   have HN6:=Z hn6
   clear hR5 hA5 hL5 hn5 hR6 hA6 hL6 hB6 hn6 hb5 HB4 HB5 HR4 HA4 HL4 HN4 HRt
   go_wp2_with fail
   exact retV HR6.out rfl rfl ⟨rfl,HSet.out _ _ _ _ HB6.out⟩
 | ok b =>
  simp only [Pl.snd2]
  have hor:=ho2 b rfl
  clear ho2 he2
  cases hm:(a.miss || b.miss) with
  | true =>
   have hm2:(a.kind == 0)=true\/((a.kind == 0)=false/\(b.kind == 0)=true):=by
    unfold Pl.V.miss at hm
    cases h1:(a.kind == 0) with
    | true=>exact .inl rfl
    | false=>rw [h1] at hm;exact .inr ⟨rfl,by simpa using hm⟩
   have HPo:Hid (Pl.ap2 op a b=.ok Pl.nul):=by
    unfold Hid Pl.ap2
    rw [if_neg (by omega),if_pos hm]
   rw [HPo.out]
   clear HPo hm hor
   obtain rfl|rfl|rfl:op=14\/op=15\/op=16:=hop
   all_goals
    simp [signB,signs] at hx0
    rcases hm2 with g0|⟨g0,g1⟩
    all_goals
     go_enter Tryz.func134,Tryz.ntmps134
     go_wp2_with fail
     refine (U HL).mono ?_
     rintro e w1 ⟨rfl,hb1⟩
     simp only [outE,aggR,Pl.nul]
     have hR:=bB hb1 (by simp) (blk_new w zeroO)
     have HB1:=Z (HB0.out.trans (hb1.mono HB0.out.size))
     have hn1:=bB hb1 (lB HN.out) HN.out
     clear HL hx0 hx1
     go_upto_region 8 with fail
     have hA:=blk_new w1 (.cells #[.int .i64 a.kind,.int .i64 a.n,.string ⟨a.s.toArray⟩] 34)
     have hR2:=bA hR (.cells #[.int .i64 a.kind,.int .i64 a.n,.string ⟨a.s.toArray⟩] 34)
     have hn2:=bA hn1 (.cells #[.int .i64 a.kind,.int .i64 a.n,.string ⟨a.s.toArray⟩] 34)
     have HB2:=Z (HB1.out.alloc HB1.out.size (.cells #[.int .i64 a.kind,.int .i64 a.n,.string ⟨a.s.toArray⟩] 34))
     generalize w1.alloc (.cells #[.int .i64 a.kind,.int .i64 a.n,.string ⟨a.s.toArray⟩] 34)=w2 at *
     generalize w1.heap.size=A at *
     obtain ⟨yrz,yr0,yr1,yr2,yrf0,yrf1,yrf2⟩:=blk3 hR2
     obtain ⟨yaz,ya0,ya1,ya2,-⟩:=blk3 hA
     obtain ⟨ynz,yn0,yn2⟩:=blkN hn2
     simp [signB,signs] at yn0
     have HR2:=Z hR2
     have HA2:=Z hA
     have HN2:=Z hn2
     clear hA hR2 hn2 hb1 hR hn1 HB1
     go_wp2_with fail
     refine (truthR false w2).mono ?_
     rintro e w3 ⟨rfl,hb3⟩
     simp only [aggR,Pl.tru,if_true]
     try simp only [Bool.false_eq_true,if_false]
     have hR3:=bB hb3 yrz HR2.out
     have hA3:=bB hb3 yaz HA2.out
     have hn3:=bB hb3 ynz HN2.out
     have HB3:=Z (HB2.out.trans (hb3.mono HB2.out.size))
     clear yrz yr0 yr1 yr2 yrf0 yrf1 yrf2 yaz ya0 ya1 ya2 ynz yn0 yn2
     go_upto_region 24 with fail
     have hR4:=bA hR3 (.cells #[.int .i64 3,.int .i64 0,.string ⟨#[]⟩] 34)
     have hA4:=bA hA3 (.cells #[.int .i64 3,.int .i64 0,.string ⟨#[]⟩] 34)
     have hL4:=blk_new w3 (.cells #[.int .i64 3,.int .i64 0,.string ⟨#[]⟩] 34)
     have hn4:=bA hn3 (.cells #[.int .i64 3,.int .i64 0,.string ⟨#[]⟩] 34)
     have HB4:=Z (HB3.out.alloc HB3.out.size (.cells #[.int .i64 3,.int .i64 0,.string ⟨#[]⟩] 34))
     generalize w3.alloc (.cells #[.int .i64 3,.int .i64 0,.string ⟨#[]⟩] 34)=w4 at *
     generalize w3.heap.size=L at *
     obtain ⟨yrz,yr0,yr1,yr2,yrf0,yrf1,yrf2⟩:=blk3 hR4
     obtain ⟨yaz,ya0,ya1,ya2,-⟩:=blk3 hA4
     obtain ⟨ylz,yl0,yl1,yl2,-⟩:=blk3 hL4
     obtain ⟨ynz,yn0,yn2⟩:=blkN hn4
     simp [signB,signs] at yn0
     have HR4:=Z hR4
     have HA4:=Z hA4
     have HL4:=Z hL4
     have HN4:=Z hn4
     clear hR3 hA3 hn3 hR4 hA4 hL4 hn4 hb3 HB2 HB3 HR2 HA2 HN2
     go_wp2_with fail
     refine ((U HRt) w4 HB4.out).mono ?_
     rintro e w5 ⟨rfl,hb5⟩
     simp only [outE,aggR,Pl.nul]
     have hR5:=bB hb5 yrz HR4.out
     have hA5:=bB hb5 yaz HA4.out
     have hL5:=bB hb5 ylz HL4.out
     have hn5:=bB hb5 ynz HN4.out
     have HB5:=Z (HB4.out.trans (hb5.mono HB4.out.size))
     clear yrz yr0 yr1 yr2 yrf0 yrf1 yrf2 yaz ya0 ya1 ya2 ylz yl0 yl1 yl2 ynz yn0 yn2
     go_upto_region 27 with fail
     have hR6:=bA hR5 (.cells #[.int .i64 b.kind,.int .i64 b.n,.string ⟨b.s.toArray⟩] 34)
     have hA6:=bA hA5 (.cells #[.int .i64 b.kind,.int .i64 b.n,.string ⟨b.s.toArray⟩] 34)
     have hL6:=bA hL5 (.cells #[.int .i64 b.kind,.int .i64 b.n,.string ⟨b.s.toArray⟩] 34)
     have hB6:=blk_new w5 (.cells #[.int .i64 b.kind,.int .i64 b.n,.string ⟨b.s.toArray⟩] 34)
     have hn6:=bA hn5 (.cells #[.int .i64 b.kind,.int .i64 b.n,.string ⟨b.s.toArray⟩] 34)
     have HB6:=Z (HB5.out.alloc HB5.out.size (.cells #[.int .i64 b.kind,.int .i64 b.n,.string ⟨b.s.toArray⟩] 34))
     generalize w5.alloc (.cells #[.int .i64 b.kind,.int .i64 b.n,.string ⟨b.s.toArray⟩] 34)=w6 at *
     generalize w5.heap.size=B at *
     obtain ⟨yrz,yr0,yr1,yr2,yrf0,yrf1,yrf2⟩:=blk3 hR6
     obtain ⟨yaz,ya0,ya1,ya2,-⟩:=blk3 hA6
     obtain ⟨ylz,yl0,yl1,yl2,-⟩:=blk3 hL6
     obtain ⟨ybz,yb0,yb1,yb2,-⟩:=blk3 hB6
     obtain ⟨ynz,yn0,-⟩:=blkN hn6
     simp [signB,signs] at yn0
     have HR6:=Z hR6
     have HA6:=Z hA6
     have HBb6:=Z hB6
     have HN6:=Z hn6
     clear hR5 hA5 hL5 hn5 hR6 hA6 hL6 hB6 hn6 hb5 HB4 HB5 HR4 HA4 HL4 HN4 HRt
     go_wp2_with fail
     exact retV HR6.out rfl rfl ⟨rfl,HSet.out _ _ _ _ HB6.out⟩
  | false =>
   obtain ⟨h1,h2⟩:a.miss=false/\b.miss=false:=by simpa using hm
   have g0:(a.kind == 0)=false:=h1
   have g1:(b.kind == 0)=false:=h2
   have HPo:Hid (Pl.ap2 op a b=.ok (Pl.tru (Pl.holds op (Pl.ordR a b)))):=by
    unfold Hid Pl.ap2
    rw [if_neg (by omega),if_neg (by simp [h1,h2]),if_neg (by omega),hor h1 h2]
   rw [HPo.out]
   have HOr:=Z (fun W=>orderR a b W)
   generalize Pl.ordR a b=oc at *
   have HTr:=Z (fun W=>truthR (Pl.holds op oc) W)
   generalize Pl.tru (Pl.holds op oc)=tv at *
   clear HPo hm h1 h2 hor
   obtain rfl|rfl|rfl:op=14\/op=15\/op=16:=hop
   all_goals
    simp [signB,signs] at hx0
    simp only [Pl.holds,if_pos,reduceIte,Nat.reduceEqDiff] at HTr
    go_enter Tryz.func134,Tryz.ntmps134
    go_wp2_with fail
    refine (U HL).mono ?_
    rintro e w1 ⟨rfl,hb1⟩
    simp only [outE,aggR,Pl.nul]
    have hR:=bB hb1 (by simp) (blk_new w zeroO)
    have HB1:=Z (HB0.out.trans (hb1.mono HB0.out.size))
    have hn1:=bB hb1 (lB HN.out) HN.out
    clear HL hx0 hx1
    go_upto_region 8 with fail
    have hA:=blk_new w1 (.cells #[.int .i64 a.kind,.int .i64 a.n,.string ⟨a.s.toArray⟩] 34)
    have hR2:=bA hR (.cells #[.int .i64 a.kind,.int .i64 a.n,.string ⟨a.s.toArray⟩] 34)
    have hn2:=bA hn1 (.cells #[.int .i64 a.kind,.int .i64 a.n,.string ⟨a.s.toArray⟩] 34)
    have HB2:=Z (HB1.out.alloc HB1.out.size (.cells #[.int .i64 a.kind,.int .i64 a.n,.string ⟨a.s.toArray⟩] 34))
    generalize w1.alloc (.cells #[.int .i64 a.kind,.int .i64 a.n,.string ⟨a.s.toArray⟩] 34)=w2 at *
    generalize w1.heap.size=A at *
    obtain ⟨yrz,yr0,yr1,yr2,yrf0,yrf1,yrf2⟩:=blk3 hR2
    obtain ⟨yaz,ya0,ya1,ya2,-⟩:=blk3 hA
    obtain ⟨ynz,yn0,yn2⟩:=blkN hn2
    simp [signB,signs] at yn0
    have HR2:=Z hR2
    have HA2:=Z hA
    have HN2:=Z hn2
    clear hA hR2 hn2 hb1 hR hn1 HB1
    go_wp2_with fail
    refine (truthR false w2).mono ?_
    rintro e w3 ⟨rfl,hb3⟩
    simp only [aggR,Pl.tru,if_true]
    try simp only [Bool.false_eq_true,if_false]
    have hR3:=bB hb3 yrz HR2.out
    have hA3:=bB hb3 yaz HA2.out
    have hn3:=bB hb3 ynz HN2.out
    have HB3:=Z (HB2.out.trans (hb3.mono HB2.out.size))
    clear yrz yr0 yr1 yr2 yrf0 yrf1 yrf2 yaz ya0 ya1 ya2 ynz yn0 yn2
    go_upto_region 24 with fail
    have hR4:=bA hR3 (.cells #[.int .i64 3,.int .i64 0,.string ⟨#[]⟩] 34)
    have hA4:=bA hA3 (.cells #[.int .i64 3,.int .i64 0,.string ⟨#[]⟩] 34)
    have hL4:=blk_new w3 (.cells #[.int .i64 3,.int .i64 0,.string ⟨#[]⟩] 34)
    have hn4:=bA hn3 (.cells #[.int .i64 3,.int .i64 0,.string ⟨#[]⟩] 34)
    have HB4:=Z (HB3.out.alloc HB3.out.size (.cells #[.int .i64 3,.int .i64 0,.string ⟨#[]⟩] 34))
    generalize w3.alloc (.cells #[.int .i64 3,.int .i64 0,.string ⟨#[]⟩] 34)=w4 at *
    generalize w3.heap.size=L at *
    obtain ⟨yrz,yr0,yr1,yr2,yrf0,yrf1,yrf2⟩:=blk3 hR4
    obtain ⟨yaz,ya0,ya1,ya2,-⟩:=blk3 hA4
    obtain ⟨ylz,yl0,yl1,yl2,-⟩:=blk3 hL4
    obtain ⟨ynz,yn0,yn2⟩:=blkN hn4
    simp [signB,signs] at yn0
    have HR4:=Z hR4
    have HA4:=Z hA4
    have HL4:=Z hL4
    have HN4:=Z hn4
    clear hR3 hA3 hn3 hR4 hA4 hL4 hn4 hb3 HB2 HB3 HR2 HA2 HN2
    go_wp2_with fail
    refine ((U HRt) w4 HB4.out).mono ?_
    rintro e w5 ⟨rfl,hb5⟩
    simp only [outE,aggR,Pl.nul]
    have hR5:=bB hb5 yrz HR4.out
    have hA5:=bB hb5 yaz HA4.out
    have hL5:=bB hb5 ylz HL4.out
    have hn5:=bB hb5 ynz HN4.out
    have HB5:=Z (HB4.out.trans (hb5.mono HB4.out.size))
    clear yrz yr0 yr1 yr2 yrf0 yrf1 yrf2 yaz ya0 ya1 ya2 ylz yl0 yl1 yl2 ynz yn0 yn2
    go_upto_region 27 with fail
    have hR6:=bA hR5 (.cells #[.int .i64 b.kind,.int .i64 b.n,.string ⟨b.s.toArray⟩] 34)
    have hA6:=bA hA5 (.cells #[.int .i64 b.kind,.int .i64 b.n,.string ⟨b.s.toArray⟩] 34)
    have hL6:=bA hL5 (.cells #[.int .i64 b.kind,.int .i64 b.n,.string ⟨b.s.toArray⟩] 34)
    have hB6:=blk_new w5 (.cells #[.int .i64 b.kind,.int .i64 b.n,.string ⟨b.s.toArray⟩] 34)
    have hn6:=bA hn5 (.cells #[.int .i64 b.kind,.int .i64 b.n,.string ⟨b.s.toArray⟩] 34)
    have HB6:=Z (HB5.out.alloc HB5.out.size (.cells #[.int .i64 b.kind,.int .i64 b.n,.string ⟨b.s.toArray⟩] 34))
    generalize w5.alloc (.cells #[.int .i64 b.kind,.int .i64 b.n,.string ⟨b.s.toArray⟩] 34)=w6 at *
    generalize w5.heap.size=B at *
    obtain ⟨yrz,yr0,yr1,yr2,yrf0,yrf1,yrf2⟩:=blk3 hR6
    obtain ⟨yaz,ya0,ya1,ya2,-⟩:=blk3 hA6
    obtain ⟨ylz,yl0,yl1,yl2,-⟩:=blk3 hL6
    obtain ⟨ybz,yb0,yb1,yb2,-⟩:=blk3 hB6
    obtain ⟨ynz,yn0,-⟩:=blkN hn6
    simp [signB,signs] at yn0
    have HR6:=Z hR6
    have HA6:=Z hA6
    have HBb6:=Z hB6
    have HN6:=Z hn6
    clear hR5 hA5 hL5 hn5 hR6 hA6 hL6 hB6 hn6 hb5 HB4 HB5 HR4 HA4 HL4 HN4 HRt
    go_wp2_with fail
    refine ((U HOr) w6).mono ?_
    rintro e w7 ⟨rfl,hb7⟩
    have hR7:=bB hb7 yrz HR6.out
    have hn7:=bB hb7 ynz HN6.out
    have HB7:=Z (HB6.out.trans (hb7.mono HB6.out.size))
    clear yrz yr0 yr1 yr2 yrf0 yrf1 yrf2 yaz ya0 ya1 ya2 ylz yl0 yl1 yl2 ybz yb0 yb1 yb2 ynz yn0
    obtain ⟨yrz,yr0,yr1,yr2,yrf0,yrf1,yrf2⟩:=blk3 hR7
    obtain ⟨ynz,yn0,-⟩:=blkN hn7
    simp [signB,signs] at yn0
    have HR7:=Z hR7
    clear hb7 hn7 hR7 HB6 HR6 HA6 HBb6 HN6 HOr
    go_wp2_with fail
    refine ((U HTr) w7).mono ?_
    rintro e w8 ⟨rfl,hb8⟩
    simp only [aggR]
    have hR8:=bB hb8 yrz HR7.out
    have HB8:=Z (HB7.out.trans (hb8.mono HB7.out.size))
    clear yrz yr0 yr1 yr2 yrf0 yrf1 yrf2 ynz yn0
    obtain ⟨yrz,yr0,yr1,yr2,yrf0,yrf1,yrf2⟩:=blk3 hR8
    have HR8:=Z hR8
    clear hb8 hR8
    go_wp2_with fail
    exact retV HR8.out rfl rfl ⟨rfl,HSet.out _ _ _ _ HB8.out⟩
end Go.Proofs.YtojdpjpldokjmaaGreatDoor
