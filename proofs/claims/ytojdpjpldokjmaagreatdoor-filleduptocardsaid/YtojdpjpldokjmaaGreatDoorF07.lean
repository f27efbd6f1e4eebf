/- What values come to, their types, their programs: plainly. Nothing of the program in it. -/
import Derived.Test.YtojdpjpldokjmaaGreatDoorF03
import Derived.Lib.Small
import Derived.Lib.Bytealg
set_option maxHeartbeats 60000000
set_option maxRecDepth 100000
namespace Go.Proofs.YtojdpjpldokjmaaGreatDoor
namespace Pl
open Go.Deep
structure V where
 kind:Int
 n:Int
 s:List UInt8
def V.same (a b:V):Bool:=a.kind == b.kind && (a.n == b.n && a.s == b.s)
theorem V.same_iff (a b:V):V.same a b=true ↔ a=b:=by
 obtain ⟨k,n,s⟩:=a
 obtain ⟨k',n',s'⟩:=b
 simp [V.same]
theorem V.same_yes {a b:V}(h:a=b):V.same a b=true:=(V.same_iff a b).2 h
theorem V.same_no {a b:V}(h:¬ a=b):V.same a b=false:=by
 cases hs:V.same a b with
 | false=>rfl
 | true=>exact absurd ((V.same_iff a b).1 hs) h
def decV (a b:V):Decidable (a=b):=if h:V.same a b=true then .isTrue ((V.same_iff a b).1 h) else .isFalse (fun e=>h (V.same_yes e))
def nul:V:=⟨0,0,[]⟩
def tru (b:Bool):V:=⟨3,if b=true then 1 else 0,[]⟩
def V.miss (v:V):Bool:=v.kind == 0
abbrev Out (α:Type):=Except Nat α
def ranged (n:Int):Out V:=if -9223372036854775808<=n/\n<=9223372036854775807 then .ok ⟨1,n,[]⟩ else .error 4
def reckon (op:Nat)(a b:Int):Out V :=
 if op=6 then ranged (a+b) else if op=7 then ranged (a - b) else if op=8 then ranged (a*b)
 else if b=0 then .error 5 else if op=10 then .ok ⟨1,Int.tmod a b,[]⟩ else ranged (Int.tdiv a b)
def order (a b:V):Int:=if (a.miss || b.miss)=true then Lib.compareInt a.kind b.kind else if a.kind=2 then Lib.compareBytes a.s b.s else Lib.compareInt a.n b.n
def holds (op:Nat)(o:Int):Bool :=
 if op=11 then o == 0 else if op=12 then o != 0 else if op=13 then decide (o<0) else if op=14 then decide (o<=0) else if op=15 then decide (0<o) else decide (0<=o)
def opp (v:V):V:=if v.miss=true then v else tru (v.n == 0)
def neg (v:V):Out V:=if v.miss=true then .ok v else ranged (-v.n)
def joined (l r tell:V):V:=@ite _ (r=tell\/r.miss=true) (@instDecidableOr _ _ (decV r tell) _) r l
def ap1 (op:Nat)(v:V):Out V:=if op=2 then neg v else if op=3 then .ok (opp v) else .ok (tru (v.miss == (op == 4)))
def ap2 (op:Nat)(l r:V):Out V :=
 if op=17\/op=18 then .ok (joined l r (tru (op == 18))) else if (l.miss || r.miss)=true then .ok nul
 else if op<=10 then reckon op l.n r.n else .ok (tru (holds op (order l r)))
structure Col where
 src:List UInt8
 name:List UInt8
 type:Int
def Col.is (src name:List UInt8)(c:Col):Bool:=c.name == name && (src == [] || c.src == src)
def colGo (src name:List UInt8):List Col->Nat->Option Nat->Option Nat
 | [],_,f=>f
 | c :: cs,i,f=>if c.is src name=true then (match f with
  | some _=>none
  | none=>colGo src name cs (i+1) (some i)) else colGo src name cs (i+1) f
def colAt (cols:List Col)(src name:List UInt8):Option Nat:=colGo src name cols 0 none
def typeAt (cols:List Col)(i:Nat):Int:=match cols[i]? with
 | some c=>c.type
 | none=>0
def alike (a b:Int):Bool:=a == b || a == 0 || b == 0
def takes (op:Nat):Int:=if op=3\/op=17\/op=18 then 3 else if op=4\/op=5\/(11<=op/\op<=16) then 0 else 1
def gives (op:Nat):Int:=if op=2\/(6<=op/\op<=10) then 1 else 3
def fit (op:Nat)(a b:Int):Out Int:=if (alike a (takes op) && alike b (takes op) && alike a b)=true then .ok (gives op) else .error 3
def tc (cols:List Col):T->Out Int
 | .nil=>.ok 0
 | .node _ _ p l r =>
  if p.op=0 then .ok p.kind
  else if p.op=1 then (match colAt cols p.src p.name with
   | some i=>.ok (typeAt cols i)
   | none=>.error 2)
  else match tc cols l with
   | .error e=>.error e
   | .ok a=>if p.op<=5 then fit p.op a a else match tc cols r with
    | .error e=>.error e
    | .ok b=>fit p.op a b
def litOf (p:Pay):V:=⟨p.kind,p.n,p.s⟩
def idx (cols:List Col)(p:Pay):Nat:=(colAt cols p.src p.name).getD 0
def ev (cols:List Col)(row:List V):T->Out V
 | .nil=>.ok nul
 | .node _ _ p l r =>
  if p.op=0 then .ok (litOf p)
  else if p.op=1 then .ok (row.getD (idx cols p) nul)
  else match ev cols row l with
   | .error e=>.error e
   | .ok a=>if p.op<=5 then ap1 p.op a
    else @ite _ (17<=p.op/\a=tru (p.op == 18)) (@instDecidableAnd _ _ _ (decV a (tru (p.op == 18)))) (.ok a) (match ev cols row r with
     | .error e=>.error e
     | .ok b=>ap2 p.op a b)
structure Ins where
 kind:Nat
 v:V
 place:Nat
def gen (cols:List Col):Nat->T->List Ins
 | _,.nil=>[]
 | b,.node _ _ p l r =>
  if p.op=0 then [⟨0,litOf p,0⟩]
  else if p.op=1 then [⟨1,nul,idx cols p⟩]
  else if p.op<=5 then gen cols b l++[⟨p.op+2,nul,0⟩]
  else if p.op<=16 then gen cols b l++(gen cols (b+(gen cols b l).length) r++[⟨p.op+2,nul,0⟩])
  else gen cols b l++(⟨p.op - 15,nul,b+(gen cols b l).length+1+(gen cols (b+(gen cols b l).length+1) r).length+1⟩ :: (gen cols (b+(gen cols b l).length+1) r++[⟨p.op+2,nul,0⟩]))
def Wf:T->Prop
 | .nil=>False
 | .node _ _ p l r=>p.op<=18/\(p.op<=1\/(p.op<=5/\Wf l)\/(Wf l/\Wf r))/\(6<=p.op->Wf r)/\(2<=p.op->Wf l)
def mrun (code:List Ins)(row:List V):Nat->Nat->List V->Option (Out V)
 | 0,_,_=>none
 | f+1,i,st=>match code[i]? with
  | none=>(match st with
   | v :: _=>some (.ok v)
   | []=>none)
  | some c =>
   if c.kind=0 then mrun code row f (i+1) (c.v :: st)
   else if c.kind=1 then (if c.place<row.length then mrun code row f (i+1) (row.getD c.place nul :: st) else none)
   else match st with
    | []=>none
    | v :: st1 =>
     if c.kind=2\/c.kind=3 then (@ite _ (v=tru (c.kind == 3)) (decV v (tru (c.kind == 3))) (mrun code row f c.place st) (mrun code row f (i+1) st))
     else if c.kind<=7 then (match ap1 (c.kind - 2) v with
      | .error e=>some (.error e)
      | .ok u=>mrun code row f (i+1) (u :: st1))
     else match st1 with
      | []=>none
      | u :: st2=>match ap2 (c.kind - 2) u v with
       | .error e=>some (.error e)
       | .ok x=>mrun code row f (i+1) (x :: st2)
theorem mrun_more {code:List Ins}{row:List V}:∀ {f:Nat}{i:Nat}{st:List V}{x:Out V},mrun code row f i st=some x->mrun code row (f+1) i st=some x
 | 0,_,_,_,h=>by simp [mrun] at h
 | f+1,i,st,x,h=>by
  unfold mrun at h ⊢
  split at h
  ·exact h
  ·rename_i c hc
   split at h
   ·rw [if_pos ‹_›];exact mrun_more h
   ·rw [if_neg ‹_›]
    split at h
    ·rw [if_pos ‹_›]
     split at h
     ·rw [if_pos ‹_›];exact mrun_more h
     ·cases h
    ·rw [if_neg ‹_›]
     cases st with
     | nil=>simp at h
     | cons v st1 =>
      simp only at h ⊢
      split at h
      ·rw [if_pos ‹_›]
       split at h
       ·rw [if_pos ‹_›];exact mrun_more h
       ·rw [if_neg ‹_›];exact mrun_more h
      ·rw [if_neg ‹_›]
       split at h
       ·rw [if_pos ‹_›]
        cases ha:ap1 (c.kind - 2) v with
        | error e=>rw [ha] at h;exact h
        | ok u=>rw [ha] at h;exact mrun_more h
       ·rw [if_neg ‹_›]
        cases st1 with
        | nil=>simp at h
        | cons u st2 =>
         simp only at h ⊢
         cases ha:ap2 (c.kind - 2) u v with
         | error e=>rw [ha] at h;exact h
         | ok y=>rw [ha] at h;exact mrun_more h
theorem mrun_add {code:List Ins}{row:List V}{f i:Nat}{st:List V}{x:Out V}(k:Nat)(h:mrun code row f i st=some x):mrun code row (f+k) i st=some x:=by
 induction k with
 | zero=>exact h
 | succ k ih=>exact mrun_more ih
theorem mrun_le {code:List Ins}{row:List V}{f g i:Nat}{st:List V}{x:Out V}(hg:f<=g)(h:mrun code row f i st=some x):mrun code row g i st=some x:=by
 obtain ⟨k,rfl⟩:=Nat.exists_eq_add_of_le hg;exact mrun_add k h
theorem at_mid {code pre xs post:List Ins}(h:code=pre++(xs++post))(j:Nat)(hj:j<xs.length):code[pre.length+j]?=xs[j]?:=by
 rw [h,List.getElem?_append_right (by omega),List.getElem?_append_left (by omega)]
 congr 1;omega
theorem step_lit {code:List Ins}{row:List V}{f i:Nat}{st:List V}{c:Ins}(hc:code[i]?=some c)(hk:c.kind=0):mrun code row (f+1) i st=mrun code row f (i+1) (c.v :: st):=by
 rw [mrun.eq_def];simp only;rw [hc];simp only;rw [if_pos hk]
theorem step_col {code:List Ins}{row:List V}{f i:Nat}{st:List V}{c:Ins}(hc:code[i]?=some c)(hk:c.kind=1)(hp:c.place<row.length):mrun code row (f+1) i st=mrun code row f (i+1) (row.getD c.place nul :: st):=by
 rw [mrun.eq_def];simp only;rw [hc];simp only;rw [if_neg (by omega),if_pos hk,if_pos hp]
theorem step_jump {code:List Ins}{row:List V}{f i:Nat}{v:V}{st:List V}{c:Ins}(hc:code[i]?=some c)(hk:c.kind=2\/c.kind=3):mrun code row (f+1) i (v :: st)=@ite _ (v=tru (c.kind == 3)) (decV v (tru (c.kind == 3))) (mrun code row f c.place (v :: st)) (mrun code row f (i+1) (v :: st)):=by
 rw [mrun,hc];simp only;rw [if_neg (by omega),if_neg (by omega),if_pos hk]
theorem step_one {code:List Ins}{row:List V}{f i:Nat}{v:V}{st:List V}{c:Ins}(hc:code[i]?=some c)(h4:4<=c.kind)(h7:c.kind<=7):mrun code row (f+1) i (v :: st)=match ap1 (c.kind - 2) v with
 | .error e=>some (.error e)
 | .ok u=>mrun code row f (i+1) (u :: st):=by
 rw [mrun,hc];simp only;rw [if_neg (by omega),if_neg (by omega),if_neg (by omega),if_pos h7]
theorem step_two {code:List Ins}{row:List V}{f i:Nat}{u v:V}{st:List V}{c:Ins}(hc:code[i]?=some c)(h8:8<=c.kind):mrun code row (f+1) i (v :: u :: st)=match ap2 (c.kind - 2) u v with
 | .error e=>some (.error e)
 | .ok x=>mrun code row f (i+1) (x :: st):=by
 rw [mrun,hc];simp only;rw [if_neg (by omega),if_neg (by omega),if_neg (by omega),if_neg (by omega)]
theorem gen_run (cols:List Col)(code:List Ins)(row:List V):∀ (t:T)(pre post:List Ins)(f:Nat)(st:List V),Wf t->(∃ ty,tc cols t=.ok ty)->(cols.length<=row.length)->code=pre++(gen cols pre.length t++post) ->
 (∀ v,ev cols row t=.ok v->∀ x,mrun code row f (pre.length+(gen cols pre.length t).length) (v :: st)=some x->mrun code row (f+(gen cols pre.length t).length) pre.length st=some x) /\
 (∀ e,ev cols row t=.error e->mrun code row (f+(gen cols pre.length t).length) pre.length st=some (.error e))
 | .nil,_,_,_,_,h,_,_,_=>absurd h id
 | .node a1 a2 p l r,pre,post,f,st,hw,htc,hrow,hcode=>by
  obtain ⟨hop,_,hwr,hwl⟩:=hw
  by_cases h0:p.op=0
  ·have hg:gen cols pre.length (.node a1 a2 p l r)=[⟨0,litOf p,0⟩]:=by rw [gen,if_pos h0]
   have he:ev cols row (.node a1 a2 p l r)=.ok (litOf p):=by rw [ev,if_pos h0]
   rw [hg] at hcode ⊢
   have hc:=at_mid hcode 0 (by simp)
   simp only [List.length_singleton,Nat.add_zero,List.getElem?_cons_zero] at hc ⊢
   rw [he]
   refine ⟨fun v hv x hx=>?_,fun e h=>by cases h⟩
   cases hv
   rw [step_lit hc rfl];exact hx
  by_cases h1:p.op=1
  ·have hg:gen cols pre.length (.node a1 a2 p l r)=[⟨1,nul,idx cols p⟩]:=by rw [gen,if_neg h0,if_pos h1]
   have he:ev cols row (.node a1 a2 p l r)=.ok (row.getD (idx cols p) nul):=by rw [ev,if_neg h0,if_pos h1]
   have hi:idx cols p<row.length:=by
    obtain ⟨ty,ht⟩:=htc
    rw [tc,if_neg h0,if_pos h1] at ht
    have hlt:∀ (cs:List Col) (i:Nat) (g:Option Nat) (j:Nat),(∀ j,g=some j->j<i)->colGo p.src p.name cs i g=some j->j<i+cs.length:=by
     intro cs
     induction cs with
     | nil=>intro i g j hg h;exact hg j h
     | cons c cs ih =>
      intro i g j hg h
      unfold colGo at h
      split at h
      ·split at h
       ·cases h
       ·have:=ih (i+1) (some i) j (fun j hj=>by cases hj;omega) h;simp;omega
      ·have:=ih (i+1) g j (fun j hj=>by have:=hg j hj;omega) h;simp;omega
    unfold idx
    cases hcol:colAt cols p.src p.name with
    | none=>rw [hcol] at ht;cases ht
    | some i =>
     have:=hlt cols 0 none i (fun j hj=>by cases hj) hcol
     simp;omega
   rw [hg] at hcode ⊢
   have hc:=at_mid hcode 0 (by simp)
   simp only [List.length_singleton,Nat.add_zero,List.getElem?_cons_zero] at hc ⊢
   rw [he]
   refine ⟨fun v hv x hx=>?_,fun e h=>by cases h⟩
   cases hv
   rw [step_col hc rfl hi];exact hx
  have htl:∃ ty,tc cols l=.ok ty:=by
   obtain ⟨ty,ht⟩:=htc
   rw [tc,if_neg h0,if_neg h1] at ht
   cases hl:tc cols l with
   | error e=>rw [hl] at ht;cases ht
   | ok a=>exact ⟨a,rfl⟩
  have htr:¬ p.op<=5->∃ ty,tc cols r=.ok ty:=by
   intro h5
   obtain ⟨ty,ht⟩:=htc
   rw [tc,if_neg h0,if_neg h1] at ht
   cases hl:tc cols l with
   | error e=>rw [hl] at ht;cases ht
   | ok a =>
    rw [hl] at ht;simp only at ht;rw [if_neg h5] at ht
    cases hr:tc cols r with
    | error e=>rw [hr] at ht;cases ht
    | ok a=>exact ⟨a,rfl⟩
  have he:ev cols row (.node a1 a2 p l r)=match ev cols row l with
   | .error e=>.error e
   | .ok a=>if p.op<=5 then ap1 p.op a
    else @ite _ (17<=p.op/\a=tru (p.op == 18)) (@instDecidableAnd _ _ _ (decV a (tru (p.op == 18)))) (.ok a) (match ev cols row r with
     | .error e=>.error e
     | .ok b=>ap2 p.op a b):=by rw [ev,if_neg h0,if_neg h1]
  rw [he]
  generalize hL:gen cols pre.length l=L at *
  by_cases h5:p.op<=5
  ·have hg:gen cols pre.length (.node a1 a2 p l r)=L++[⟨p.op+2,nul,0⟩]:=by rw [gen,if_neg h0,if_neg h1,if_pos h5,hL]
   rw [hg] at hcode ⊢
   have hc:code[pre.length+L.length]?=some ⟨p.op+2,nul,0⟩:=by
    have:=at_mid hcode L.length (by simp)
    rw [this];simp
   have ih:=fun f=>gen_run cols code row l pre ([⟨p.op+2,nul,0⟩]++post) f st (hwl (by omega)) htl hrow (by rw [hL,hcode];simp)
   rw [hL] at ih
   simp only [List.length_append,List.length_singleton]
   rw [show f+(L.length+1)=(f+1)+L.length from by omega]
   cases hl:ev cols row l with
   | error e =>
    refine ⟨fun v hv=>by simp at hv,fun e' h=>?_⟩
    simp at h;subst h
    exact (ih (f+1)).2 e hl
   | ok a =>
    simp only
    rw [if_pos h5]
    have hs:=step_one (f:=f) (row:=row) (v:=a) (st:=st) hc (show 4<=p.op+2 by omega) (show p.op+2<=7 by omega)
    simp only [Nat.add_sub_cancel] at hs
    refine ⟨fun v hv x hx=>?_,fun e h=>?_⟩
    ·refine (ih (f+1)).1 a hl x ?_
     rw [hs,hv];simp only
     rw [<- Nat.add_assoc] at hx;exact hx
    ·refine (ih (f+1)).1 a hl _ ?_
     rw [hs,h]
  have hrr:=htr h5
  by_cases h16:p.op<=16
  ·generalize hR:gen cols (pre.length+L.length) r=R at *
   have hg:gen cols pre.length (.node a1 a2 p l r)=L++(R++[⟨p.op+2,nul,0⟩]):=by rw [gen,if_neg h0,if_neg h1,if_neg h5,if_pos h16,hL,hR]
   rw [hg] at hcode ⊢
   have hc:code[pre.length+(L.length+R.length)]?=some ⟨p.op+2,nul,0⟩:=by
    have:=at_mid hcode (L.length+R.length) (by simp)
    rw [this,List.getElem?_append_right (by omega),List.getElem?_append_right (by omega)];simp
   have ih1:=fun f=>gen_run cols code row l pre (R++[⟨p.op+2,nul,0⟩]++post) f st (hwl (by omega)) htl hrow (by rw [hL,hcode];simp)
   have ih2:=fun f st=>gen_run cols code row r (pre++L) ([⟨p.op+2,nul,0⟩]++post) f st (hwr (by omega)) hrr hrow (by rw [List.length_append,hR,hcode];simp)
   rw [hL] at ih1
   simp only [List.length_append,hR] at ih2
   simp only [List.length_append,List.length_singleton]
   rw [show f+(L.length+(R.length+1))=((f+1)+R.length)+L.length from by omega]
   cases hl:ev cols row l with
   | error e =>
    refine ⟨fun v hv=>by simp at hv,fun e' h=>?_⟩
    simp at h;subst h
    exact (ih1 _).2 e hl
   | ok a =>
    simp only
    rw [if_neg h5,if_neg (by omega)]
    cases hr:ev cols row r with
    | error e =>
     refine ⟨fun v hv=>by simp at hv,fun e' h=>?_⟩
     simp at h;subst h
     exact (ih1 _).1 a hl _ ((ih2 (f+1) (a :: st)).2 e hr)
    | ok b =>
     simp only
     have hs:=step_two (f:=f) (row:=row) (u:=a) (v:=b) (st:=st) hc (show 8<=p.op+2 by omega)
     simp only [Nat.add_sub_cancel] at hs
     refine ⟨fun v hv x hx=>?_,fun e h=>?_⟩
     ·refine (ih1 _).1 a hl x ((ih2 (f+1) (a :: st)).1 b hr x ?_)
      rw [Nat.add_assoc,hs,hv];simp only
      rw [show pre.length+(L.length+(R.length+1))=pre.length+(L.length+R.length)+1 from by omega] at hx;exact hx
     ·refine (ih1 _).1 a hl _ ((ih2 (f+1) (a :: st)).1 b hr _ ?_)
      rw [Nat.add_assoc,hs,h]
  ·generalize hR:gen cols (pre.length+L.length+1) r=R at *
   have hg:gen cols pre.length (.node a1 a2 p l r)=L++(⟨p.op - 15,nul,pre.length+L.length+1+R.length+1⟩ :: (R++[⟨p.op+2,nul,0⟩])):=by rw [gen,if_neg h0,if_neg h1,if_neg h5,if_neg h16,hL,hR]
   rw [hg] at hcode ⊢
   have hj:code[pre.length+L.length]?=some ⟨p.op - 15,nul,pre.length+L.length+1+R.length+1⟩:=by
    have:=at_mid hcode L.length (by simp)
    rw [this,List.getElem?_append_right (by omega)];simp
   have hc:code[pre.length+(L.length+1+R.length)]?=some ⟨p.op+2,nul,0⟩:=by
    have:=at_mid hcode (L.length+1+R.length) (by simp;omega)
    rw [this,List.getElem?_append_right (by omega),show L.length+1+R.length - L.length=R.length+1 from by omega,List.getElem?_cons_succ,List.getElem?_append_right (by omega)];simp
   have ih1:=fun f=>gen_run cols code row l pre ((⟨p.op - 15,nul,pre.length+L.length+1+R.length+1⟩ :: (R++[⟨p.op+2,nul,0⟩]))++post) f st (hwl (by omega)) htl hrow (by rw [hL,hcode];simp)
   have ih2:=fun f st=>gen_run cols code row r (pre++L++[⟨p.op - 15,nul,pre.length+L.length+1+R.length+1⟩]) ([⟨p.op+2,nul,0⟩]++post) f st (hwr (by omega)) hrr hrow (by simp only [List.length_append,List.length_singleton,hR];rw [hcode];simp)
   rw [hL] at ih1
   simp only [List.length_append,List.length_singleton,hR] at ih2
   simp only [List.length_append,List.length_cons,List.length_nil]
   rw [show f+(L.length+(R.length+(0+1)+1))=(((f+1)+R.length)+1)+L.length from by omega]
   have ht18:(p.op - 15 == 3)=(p.op == 18):=by rw [Bool.eq_iff_iff];simp;omega
   have hs0:=fun f a=>step_jump (f:=f) (row:=row) (v:=a) (st:=st) hj (show p.op - 15=2\/p.op - 15=3 by omega)
   cases hl:ev cols row l with
   | error e =>
    refine ⟨fun v hv=>by simp at hv,fun e' h=>?_⟩
    simp at h;subst h
    exact (ih1 _).2 e hl
   | ok a =>
    simp only
    rw [if_neg h5]
    by_cases hat:a=tru (p.op == 18)
    ·rw [if_pos ⟨by omega,hat⟩]
     refine ⟨fun v hv x hx=>?_,fun e h=>by cases h⟩
     cases hv
     refine (ih1 _).1 a hl x ?_
     rw [hs0,if_pos (by rw [ht18];exact hat)]
     refine mrun_le (f:=f) (by omega) ?_
     rw [show pre.length+(L.length+(R.length+(0+1)+1))=pre.length+L.length+1+R.length+1 from by omega] at hx
     exact hx
    ·rw [if_neg (fun h=>hat h.2)]
     cases hr:ev cols row r with
     | error e =>
      refine ⟨fun v hv=>by simp at hv,fun e' h=>?_⟩
      simp at h;subst h
      refine (ih1 _).1 a hl _ ?_
      rw [hs0,if_neg (by rw [ht18];exact hat)]
      have:=(ih2 (f+1) (a :: st)).2 e hr
      exact this
     | ok b =>
      simp only
      have hs:=step_two (f:=f) (row:=row) (u:=a) (v:=b) (st:=st) hc (show 8<=p.op+2 by omega)
      simp only [Nat.add_sub_cancel] at hs
      refine ⟨fun v hv x hx=>?_,fun e h=>?_⟩
      ·refine (ih1 _).1 a hl x ?_
       rw [hs0,if_neg (by rw [ht18];exact hat)]
       refine (ih2 (f+1) (a :: st)).1 b hr x ?_
       rw [show pre.length+L.length+1+R.length=pre.length+(L.length+1+R.length) from by omega,hs,hv];simp only
       rw [show pre.length+(L.length+(R.length+(0+1)+1))=pre.length+(L.length+1+R.length)+1 from by omega] at hx;exact hx
      ·refine (ih1 _).1 a hl _ ?_
       rw [hs0,if_neg (by rw [ht18];exact hat)]
       refine (ih2 (f+1) (a :: st)).1 b hr _ ?_
       rw [show pre.length+L.length+1+R.length=pre.length+(L.length+1+R.length) from by omega,hs,h]
theorem gen_whole (cols:List Col)(row:List V)(t:T)(hw:Wf t)(ht:∃ ty,tc cols t=.ok ty)(hrow:cols.length<=row.length):mrun (gen cols 0 t) row ((gen cols 0 t).length+1) 0 []=some (ev cols row t):=by
 have h:=gen_run cols (gen cols 0 t) row t [] [] 1 [] hw ht hrow (by simp)
 simp only [List.length_nil,Nat.zero_add] at h
 rw [Nat.add_comm]
 cases he:ev cols row t with
 | error e=>exact h.2 e he
 | ok v =>
  refine h.1 v he _ ?_
  rw [mrun]
  rw [List.getElem?_eq_none (by omega)]
end Pl
namespace Pl
open Go.Deep
def sz:T->Nat
 | .nil=>0
 | .node _ _ _ l r=>sz l+sz r+1
def WfK:T->Prop
 | .nil=>True
 | .node _ _ p l r=>(p.op=0->(p.kind=0/\p.n=0/\p.s=[])\/(p.kind=1/\p.s=[]/\0<=p.n/\p.n<=9223372036854775807)\/(p.kind=2/\p.n=0/\p.s.length<=40)\/(p.kind=3/\(p.n=0\/p.n=1)/\p.s=[]))/\WfK l/\WfK r
def TokOk (ts:List Tok):Prop:=∀ t ∈ ts,(t.k=2->0<=t.n/\t.n<=9223372036854775807)/\(t.k=3->t.s.length<=40)/\(t.k=1->t.s.length<=10/\t.s≠[])
def Good (p:P):Prop:=∀ ts x r,TokOk ts->p ts=some (x,r)->Wf x/\WfK x/\sz x+r.length<=ts.length/\TokOk r
theorem TokOk.tail {ts:List Tok}(h:TokOk ts):TokOk ts.tail:=fun t ht=>h t (List.mem_of_mem_tail ht)
theorem TokOk.hd {ts:List Tok}(h:TokOk ts):((hd ts).k=2->0<=(hd ts).n/\(hd ts).n<=9223372036854775807)/\((hd ts).k=3->(hd ts).s.length<=40)/\((hd ts).k=1->(hd ts).s.length<=10/\(hd ts).s≠[]):=by
 cases ts with
 | nil=>exact ⟨fun h=>(by cases h),fun h=>(by cases h),fun h=>(by cases h)⟩
 | cons a l=>exact h a (by simp)
theorem tail_lt {ts:List Tok}{k:Nat}(h:(Pl.hd ts).k=k)(hk:k≠0):ts.tail.length+1=ts.length:=by
 have:=hd_tail_lt hk h
 simp at this ⊢;omega
theorem tail_lt' {ts:List Tok}(h:(Pl.hd ts).k≠0):ts.tail.length+1=ts.length:=tail_lt rfl h
theorem two_good {o:Nat}{x y:T}(h6:6<=o)(h18:o<=18)(hx:Wf x)(hy:Wf y)(kx:WfK x)(ky:WfK y):Wf (tTwo o x y)/\WfK (tTwo o x y):=by
 unfold tTwo
 exact ⟨⟨h18,.inr (.inr ⟨hx,hy⟩),fun _=>hy,fun _=>hx⟩,⟨fun h=>absurd h (show o≠0 by omega),kx,ky⟩⟩
theorem one_good {o:Nat}{x:T}(h2:2<=o)(h5:o<=5)(hx:Wf x)(kx:WfK x):Wf (tOne o x)/\WfK (tOne o x):=by
 unfold tOne
 exact ⟨⟨show o<=18 by omega,.inr (.inl ⟨h5,hx⟩),fun h=>absurd (show 6<=o from h) (by omega),fun _=>hx⟩,⟨fun h=>absurd h (show o≠0 by omega),kx,trivial⟩⟩
theorem chain_good {part:P}{op:Nat->Option Nat}(hp:Good part)(h0:op 0=none)(hop:∀ k o,op k=some o->6<=o/\o<=18):∀ (f:Nat)(x:T)(ts:List Tok)(y:T)(r:List Tok),TokOk ts->Wf x->WfK x->chain part op f x ts=some (y,r)->Wf y/\WfK y/\sz y+r.length<=sz x+ts.length/\TokOk r
 | 0,_,_,_,_,_,_,_,h=>by simp [chain] at h
 | f+1,x,ts,y,r,ht,hx,kx,h=>by
  unfold chain at h
  split at h
  ·simp at h;obtain ⟨rfl,rfl⟩:=h;exact ⟨hx,kx,Nat.le_refl _,ht⟩
  ·rename_i o ho
   split at h
   ·cases h
   ·rename_i z r' hz
    obtain ⟨a1,a2,a3,a4⟩:=hp _ _ _ ht.tail hz
    obtain ⟨o1,o2⟩:=hop _ _ ho
    have ht2:=two_good o1 o2 hx a1 kx a2
    obtain ⟨b1,b2,b3,b4⟩:=chain_good hp h0 hop f _ _ _ _ a4 ht2.1 ht2.2 h
    refine ⟨b1,b2,?_,b4⟩
    have hl:=tail_lt' (ts:=ts) (fun e=>by rw [e,h0] at ho;cases ho)
    have:sz (tTwo o x z)=sz x+sz z+1:=rfl
    omega
theorem chained_good {part:P}{op:Nat->Option Nat}(hp:Good part)(h0:op 0=none)(hop:∀ k o,op k=some o->6<=o/\o<=18):Good (chained part op):=by
 intro ts x r ht h
 unfold chained at h
 split at h
 ·cases h
 ·rename_i y r' hy
  obtain ⟨a1,a2,a3,a4⟩:=hp _ _ _ ht hy
  obtain ⟨b1,b2,b3,b4⟩:=chain_good hp h0 hop _ _ _ _ _ a4 a1 a2 h
  exact ⟨b1,b2,by omega,b4⟩
theorem lit_good {kind n:Int}{s:List UInt8}(h:(kind=0/\n=0/\s=[])\/(kind=1/\s=[]/\0<=n/\n<=9223372036854775807)\/(kind=2/\n=0/\s.length<=40)\/(kind=3/\(n=0\/n=1)/\s=[])):Wf (tLit kind n s)/\WfK (tLit kind n s)/\sz (tLit kind n s)=1:=by
 unfold tLit
 exact ⟨⟨by simp,.inl (by simp),fun h=>absurd h (by simp),fun h=>absurd h (by simp)⟩,⟨fun _=>h,trivial,trivial⟩,rfl⟩
theorem name_good (src name:List UInt8):Wf (tName src name)/\WfK (tName src name)/\sz (tName src name)=1:=by
 unfold tName
 exact ⟨⟨by simp,.inl (by simp),fun h=>absurd h (by simp),fun h=>absurd h (by simp)⟩,⟨fun h=>absurd h (by simp),trivial,trivial⟩,rfl⟩
theorem single_good' {val:P}(hv:Good val):Good (pSingle val):=by
 intro ts x r ht h
 unfold pSingle at h
 split at h
 ·rename_i h7
  split at h
  ·cases h
  ·rename_i y r1 hz
   split at h
   ·rename_i h8
    simp at h;obtain ⟨rfl,rfl⟩:=h
    obtain ⟨a1,a2,a3,a4⟩:=hv _ _ _ ht.tail hz
    have:=tail_lt h7 (by decide)
    have:=tail_lt h8 (by decide)
    exact ⟨a1,a2,by omega,a4.tail⟩
   ·cases h
 ·split at h
  ·simp at h;obtain ⟨rfl,rfl⟩:=h
   have hl:=lit_good (kind:=3) (n:=1) (s:=[]) (by simp)
   have:=tail_lt ‹_› (by decide)
   exact ⟨hl.1,hl.2.1,by omega,ht.tail⟩
  ·split at h
   ·simp at h;obtain ⟨rfl,rfl⟩:=h
    have hl:=lit_good (kind:=3) (n:=0) (s:=[]) (by simp)
    have:=tail_lt ‹_› (by decide)
    exact ⟨hl.1,hl.2.1,by omega,ht.tail⟩
   ·split at h
    ·simp at h;obtain ⟨rfl,rfl⟩:=h
     have hl:=lit_good (kind:=0) (n:=0) (s:=[]) (by simp)
     have:=tail_lt ‹_› (by decide)
     exact ⟨hl.1,hl.2.1,by omega,ht.tail⟩
    ·split at h
     ·rename_i h2
      simp at h;obtain ⟨rfl,rfl⟩:=h
      have hl:=lit_good (kind:=1) (n:=(hd ts).n) (s:=[]) (by have:=ht.hd.1 h2;simp;omega)
      have:=tail_lt h2 (by decide)
      exact ⟨hl.1,hl.2.1,by omega,ht.tail⟩
     ·split at h
      ·rename_i h3
       simp at h;obtain ⟨rfl,rfl⟩:=h
       have hl:=lit_good (kind:=2) (n:=0) (s:=(hd ts).s) (by have:=ht.hd.2.1 h3;simp;omega)
       have:=tail_lt h3 (by decide)
       exact ⟨hl.1,hl.2.1,by omega,ht.tail⟩
      ·split at h
       ·rename_i h1
        have:=tail_lt h1 (by decide)
        split at h
        ·rename_i h10
         have:=tail_lt h10 (by decide)
         split at h
         ·rename_i h11
          have:=tail_lt h11 (by decide)
          simp at h;obtain ⟨rfl,rfl⟩:=h
          have hl:=name_good (hd ts).s (hd ts.tail.tail).s
          exact ⟨hl.1,hl.2.1,by omega,ht.tail.tail.tail⟩
         ·cases h
        ·simp at h;obtain ⟨rfl,rfl⟩:=h
         have hl:=name_good [] (hd ts).s
         exact ⟨hl.1,hl.2.1,by omega,ht.tail⟩
       ·cases h
theorem signed_good' {sgn single:P}(h1:Good sgn)(h2:Good single):Good (pSigned sgn single):=by
 intro ts x r ht h
 unfold pSigned at h
 split at h
 ·rename_i h16
  split at h
  ·cases h
  ·rename_i z r' hz
   simp at h;obtain ⟨rfl,rfl⟩:=h
   obtain ⟨a1,a2,a3,a4⟩:=h1 _ _ _ ht.tail hz
   have:=tail_lt h16 (by decide)
   have ho:=one_good (o:=2) (by decide) (by decide) a1 a2
   have:sz (tOne 2 z)=sz z+0+1:=rfl
   exact ⟨ho.1,ho.2,by omega,a4⟩
 ·exact h2 _ _ _ ht h
theorem is_good {x:T}{ts:List Tok}{y:T}{r:List Tok}(ht:TokOk ts)(hx:Wf x)(kx:WfK x)(h:pIs x ts=some (y,r)):Wf y/\WfK y/\sz y+r.length<=sz x+ts.length/\TokOk r:=by
 unfold pIs at h
 split at h
 ·rename_i h43
  have:=tail_lt h43 (by decide)
  split at h
  ·rename_i h45
   have:=tail_lt h45 (by decide)
   simp at h;obtain ⟨rfl,rfl⟩:=h
   have ho:=one_good (o:=5) (by decide) (by decide) hx kx
   have:sz (tOne 5 x)=sz x+0+1:=rfl
   exact ⟨ho.1,ho.2,by omega,ht.tail.tail⟩
  ·cases h
 ·split at h
  ·rename_i h45
   have:=tail_lt h45 (by decide)
   simp at h;obtain ⟨rfl,rfl⟩:=h
   have ho:=one_good (o:=4) (by decide) (by decide) hx kx
   have:sz (tOne 4 x)=sz x+0+1:=rfl
   exact ⟨ho.1,ho.2,by omega,ht.tail⟩
  ·cases h
theorem cmpOp_le {k o:Nat}(h:cmpOp k=some o):6<=o/\o<=18/\k≠0:=by
 unfold cmpOp at h
 repeat' (split at h)
 all_goals first
  | (cases h;done)
  | (cases h;omega)
theorem comp_good {sum:P}(hs:Good sum):Good (pComp sum):=by
 intro ts x r ht h
 unfold pComp at h
 split at h
 ·cases h
 ·rename_i y r1 hy
  obtain ⟨a1,a2,a3,a4⟩:=hs _ _ _ ht hy
  split at h
  ·rename_i o ho
   split at h
   ·cases h
   ·rename_i z r2 hz
    simp at h;obtain ⟨rfl,rfl⟩:=h
    obtain ⟨b1,b2,b3,b4⟩:=hs _ _ _ a4.tail hz
    obtain ⟨o1,o2,o3⟩:=cmpOp_le ho
    have ht2:=two_good o1 o2 a1 b1 a2 b2
    have hl:=tail_lt' o3
    have:sz (tTwo o y z)=sz y+sz z+1:=rfl
    exact ⟨ht2.1,ht2.2,by omega,b4⟩
  ·split at h
   ·rename_i h44
    obtain ⟨b1,b2,b3,b4⟩:=is_good a4.tail a1 a2 h
    have:=tail_lt h44 (by decide)
    exact ⟨b1,b2,by omega,b4⟩
   ·simp at h;obtain ⟨rfl,rfl⟩:=h;exact ⟨a1,a2,a3,a4⟩
theorem no_good {no comp:P}(h1:Good no)(h2:Good comp):Good (pNo no comp):=by
 intro ts x r ht h
 unfold pNo at h
 split at h
 ·rename_i h43
  split at h
  ·cases h
  ·rename_i z r' hz
   simp at h;obtain ⟨rfl,rfl⟩:=h
   obtain ⟨a1,a2,a3,a4⟩:=h1 _ _ _ ht.tail hz
   have:=tail_lt h43 (by decide)
   have ho:=one_good (o:=3) (by decide) (by decide) a1 a2
   have:sz (tOne 3 z)=sz z+0+1:=rfl
   exact ⟨ho.1,ho.2,by omega,a4⟩
 ·exact h2 _ _ _ ht h
theorem orOp_le (k o:Nat)(h:orOp k=some o):6<=o/\o<=18:=by
 unfold orOp at h;split at h <;> cases h;omega
theorem andOp_le (k o:Nat)(h:andOp k=some o):6<=o/\o<=18:=by
 unfold andOp at h;split at h <;> cases h;omega
theorem sumOp_le (k o:Nat)(h:sumOp k=some o):6<=o/\o<=18:=by
 unfold sumOp at h
 repeat' (split at h)
 all_goals first
  | (cases h;done)
  | (cases h;omega)
theorem prodOp_le (k o:Nat)(h:prodOp k=some o):6<=o/\o<=18:=by
 unfold prodOp at h
 repeat' (split at h)
 all_goals first
  | (cases h;done)
  | (cases h;omega)
theorem lv_good:∀ k,Good (lv k).value/\Good (lv k).no'/\Good (lv k).signed:=by
 have up:∀ v:Lv,Good v.val->Good v.no->Good v.sgn->Good v.value/\Good v.no'/\Good v.signed:=by
  intro v a b c
  have d:=single_good' a
  have e:Good v.signed:=signed_good' c d
  have f:Good v.prod:=chained_good e rfl prodOp_le
  have g:Good v.sum:=chained_good f rfl sumOp_le
  have i:Good v.comp:=comp_good g
  have j:Good v.no':=no_good b i
  have l:Good v.both:=chained_good j rfl andOp_le
  have m:Good v.value:=chained_good l rfl orOp_le
  exact ⟨m,j,e⟩
 intro k
 induction k with
 | zero=>exact up _ (by intro _ _ _ _ h;cases h) (by intro _ _ _ _ h;cases h) (by intro _ _ _ _ h;cases h)
 | succ k ih=>exact up _ ih.1 ih.2.1 ih.2.2
theorem val_good:Good (pVal 20):=(lv_good 20).1
theorem litTok_ok:∀ (acc l:List UInt8),(litTok acc l).1.k=3->(litTok acc l).1.s.length<=40
 | _,[],h=>by simp [litTok,bad] at h
 | acc,[c],h=>by
  unfold litTok at h ⊢
  split at h
  ·rw [if_pos ‹_›];simp only at h ⊢
   split at h
   ·simp [bad] at h
   ·rw [if_neg ‹_›];simp;omega
  ·simp [bad] at h
 | acc,c :: d :: r,h=>by
  unfold litTok at h ⊢
  split at h
  ·rw [if_pos ‹_›]
   split at h
   ·rw [if_pos ‹_›];exact litTok_ok _ _ h
   ·rw [if_neg ‹_›];simp only at h ⊢
    split at h
    ·simp [bad] at h
    ·rw [if_neg ‹_›];simp;omega
  ·rw [if_neg ‹_›];exact litTok_ok _ _ h
theorem tw_ne {p:UInt8->Bool}{c:UInt8}{r:List UInt8}(h:p c=true):(c :: r).takeWhile p≠[]:=by
 rw [List.takeWhile_cons_of_pos h];simp
theorem look_ok (l:List UInt8):((look l).1.k=2->0<=(look l).1.n/\(look l).1.n<=9223372036854775807)/\((look l).1.k=3->(look l).1.s.length<=40)/\((look l).1.k=1->(look l).1.s.length<=10/\(look l).1.s≠[]):=by
 unfold look
 generalize l.dropWhile isBlank=m
 cases m with
 | nil=>exact ⟨fun h=>(by cases h),fun h=>(by cases h),fun h=>(by cases h)⟩
 | cons c r =>
  simp only [headTok]
  split
  ·rename_i hlet
   have hne:=tw_ne (p:=isLD) (c:=c) (r:=r) (isLD_of_let hlet)
   generalize hw:List.takeWhile isLD (c :: r)=w at hne
   simp only [wordTok]
   split
   ·rename_i i hi
    have:=kwFrom_some hi
    exact ⟨fun h=>by simp at h;omega,fun h=>by simp at h;omega,fun h=>by simp at h;omega⟩
   ·split
    ·exact ⟨fun h=>by simp [bad] at h,fun h=>by simp [bad] at h,fun h=>by simp [bad] at h⟩
    ·exact ⟨fun h=>by simp at h,fun h=>by simp at h,fun _=>⟨by simp;omega,hne⟩⟩
  ·split
   ·simp only [numTok]
    split
    ·exact ⟨fun h=>by simp [bad] at h,fun h=>by simp [bad] at h,fun h=>by simp [bad] at h⟩
    ·refine ⟨fun _=>⟨?_,by simp;omega⟩,fun h=>by simp at h,fun h=>by simp at h⟩
     exact worth_ge _ 0 (Int.le_refl 0) (fun d hd=>mem_tw hd)
   ·split
    ·have h3:=litTok_k [] r
     refine ⟨fun h=>?_,litTok_ok [] r,fun h=>?_⟩
     ·rcases h3 with h3|h3
      ·omega
      ·rw [h3] at h;simp [bad] at h
     ·rcases h3 with h3|h3
      ·omega
      ·rw [h3] at h;simp [bad] at h
    ·have h3:=signTok_k (c :: r)
     refine ⟨fun h=>?_,fun h=>?_,fun h=>?_⟩
     all_goals
      rcases h3 with h3|h3|h3
      ·rw [h3] at h;simp [fin] at h
      ·omega
      ·rw [h3] at h;simp [bad] at h
theorem toks_ok:∀ (n:Nat)(l:List UInt8),l.length<n->TokOk (toks l)
 | 0,_,h=>by omega
 | n+1,l,hn=>by
  rw [toks_unfold]
  rcases look_k l with h|h|h
  ·rw [h,if_pos (show fin.k=0 from rfl)];intro t ht;cases ht
  ·rw [if_neg (by omega),if_neg (by omega)]
   intro t ht
   rcases List.mem_cons.1 ht with rfl|ht
   ·exact look_ok l
   ·exact toks_ok n (look l).2 (by have:=look_len l (by omega);omega) t ht
  ·rw [h,if_neg (by decide),if_pos (by decide)]
   intro t ht
   simp at ht;subst ht
   exact ⟨fun h=>by simp [bad] at h,fun h=>by simp [bad] at h,fun h=>by simp [bad] at h⟩
theorem toks_length:∀ (n:Nat)(l:List UInt8),l.length<n->(toks l).length<=l.length
 | 0,_,h=>by omega
 | n+1,l,hn=>by
  rw [toks_unfold]
  rcases look_k l with h|h|h
  ·rw [h,if_pos (show fin.k=0 from rfl)];simp
  ·rw [if_neg (by omega),if_neg (by omega)]
   have:=look_len l (by omega)
   have:=toks_length n (look l).2 (by omega)
   simp;omega
  ·have:=look_len l (by rw [h];decide)
   rw [h,if_neg (by decide),if_pos (by decide)]
   simp;omega
theorem gen_len (cols:List Col):∀ (t:T)(b:Nat),(gen cols b t).length<=2*sz t
 | .nil,b=>by simp [gen]
 | .node a1 a2 p l r,b=>by
  have h1:=gen_len cols l b
  have h2:=gen_len cols r (b+(gen cols b l).length)
  have h3:=gen_len cols r (b+(gen cols b l).length+1)
  rw [gen,sz]
  repeat' split
  all_goals (simp;try omega)
end Pl
namespace Pl
open Go.Deep
structure Tab where
 name:List UInt8
 cols:List (List UInt8 × Int)
 rows:List (List V)
abbrev DB:=List Tab
def tabAt (db:DB)(name:List UInt8):Option Nat:=db.findIdx? (fun t=>t.name == name)
def tabD (db:DB)(i:Nat):Tab:=db.getD i ⟨[],[],[]⟩
def setRows (db:DB)(i:Nat)(rows:List (List V)):DB:=db.modify i (fun t=>⟨t.name,t.cols,rows⟩)
def colIdx (t:Tab)(name:List UInt8):Option Nat:=t.cols.findIdx? (fun c=>c.1 == name)
def scope (src:List UInt8)(t:Tab):List Col:=t.cols.map (fun c=>⟨src,c.1,c.2⟩)
def dupGo:List (List UInt8)->List (List UInt8)->Bool
 | _,[]=>false
 | ahead,x :: xs=>ahead.contains x || dupGo (ahead++[x]) xs
def dup (l:List (List UInt8)):Bool:=dupGo [] l
def tcAs (cols:List Col)(t:T)(want:Int):Option Nat:=match tc cols t with
 | .error e=>some e
 | .ok a=>if alike a want=true then none else some 3
def tcAll (cols:List Col):List T->Option Nat
 | []=>none
 | t :: ts=>match tc cols t with
  | .error e=>some e
  | .ok _=>tcAll cols ts
def tcRow:List T->List Int->Option Nat
 | t :: ts,w :: ws=>match tcAs [] t w with
  | some e=>some e
  | none=>tcRow ts ws
 | _,_=>none
def evAll (cols:List Col)(row:List V):List T->Out (List V)
 | []=>.ok []
 | t :: ts=>match ev cols row t with
  | .error e=>.error e
  | .ok v=>match evAll cols row ts with
   | .error e=>.error e
   | .ok vs=>.ok (v :: vs)
def evRows (cols:List Col)(ts:List T):List (List V)->Out (List (List V))
 | []=>.ok []
 | r :: rs=>match evAll cols r ts with
  | .error e=>.error e
  | .ok v=>match evRows cols ts rs with
   | .error e=>.error e
   | .ok vs=>.ok (v :: vs)
def cond:T->T
 | .nil=>tLit 3 1 []
 | .node a b p l r=>.node a b p l r
def sift (cols:List Col)(c:T):List (List V)->Out (List (List V) × List (List V))
 | []=>.ok ([],[])
 | r :: rs=>match ev cols r c with
  | .error e=>.error e
  | .ok v=>match sift cols c rs with
   | .error e=>.error e
   | .ok z=>.ok (@ite _ (v=tru true) (decV v (tru true)) (r :: z.1,z.2) (z.1,r :: z.2))
structure Ans where
 rows:List (List V)
 count:Int
 err:Nat
def no (e:Nat):Ans:=⟨[],0,e⟩
def doCreate (db:DB)(s:St):DB × Ans :=
 if ((tabAt db s.table).isSome || dup (s.items.map (·.name)))=true then (db,no 2)
 else if db.length=6 then (db,no 6)
 else (db++[⟨s.table,s.items.map (fun i=>(i.name,i.type)),[]⟩],no 0)
def doInsert (db:DB)(s:St):DB × Ans:=match tabAt db s.table with
 | none=>(db,no 2)
 | some i =>
  if s.items.length≠(tabD db i).cols.length then (db,no 3) else
  match tcRow (s.items.map (·.tree)) ((tabD db i).cols.map (·.2)) with
  | some e=>(db,no e)
  | none=>match evAll [] [] (s.items.map (·.tree)) with
   | .error e=>(db,no e)
   | .ok row=>if (tabD db i).rows.length=25 then (db,no 6) else (setRows db i ((tabD db i).rows++[row]),⟨[],1,0⟩)
def doDelete (db:DB)(s:St):DB × Ans:=match tabAt db s.table with
 | none=>(db,no 2)
 | some i =>
  match tcAs (scope (tabD db i).name (tabD db i)) (cond s.whr) 3 with
  | some e=>(db,no e)
  | none=>match sift (scope (tabD db i).name (tabD db i)) (cond s.whr) (tabD db i).rows with
   | .error e=>(db,no e)
   | .ok z=>(setRows db i z.2,⟨[],z.1.length,0⟩)
def setsGo (t:Tab):List Nat->List It->Out (List Nat)
 | acc,[]=>.ok acc
 | acc,it :: its=>match colIdx t it.name with
  | none=>.error 2
  | some k=>if acc.contains k=true then .error 2 else
   match tcAs (scope t.name t) it.tree ((t.cols.getD k ([],0)).2) with
   | some e=>.error e
   | none=>setsGo t (acc++[k]) its
def setRow (cols:List Col)(row:List V):List V->List Nat->List T->Out (List V)
 | out,k :: ks,t :: ts=>match ev cols row t with
  | .error e=>.error e
  | .ok v=>setRow cols row (out.set k v) ks ts
 | out,_,_=>.ok out
def updGo (cols:List Col)(c:T)(ks:List Nat)(ts:List T):List (List V)->Out (List (List V) × Nat)
 | []=>.ok ([],0)
 | r :: rs=>match ev cols r c with
  | .error e=>.error e
  | .ok v=>@ite _ (v=tru true) (decV v (tru true)) (match setRow cols r r ks ts with
   | .error e=>.error e
   | .ok r'=>match updGo cols c ks ts rs with
    | .error e=>.error e
    | .ok z=>.ok (r' :: z.1,z.2+1))
   (match updGo cols c ks ts rs with
    | .error e=>.error e
    | .ok z=>.ok (r :: z.1,z.2))
def doUpdate (db:DB)(s:St):DB × Ans:=match tabAt db s.table with
 | none=>(db,no 2)
 | some i =>
  match setsGo (tabD db i) [] s.items with
  | .error e=>(db,no e)
  | .ok ks=>match tcAs (scope (tabD db i).name (tabD db i)) (cond s.whr) 3 with
   | some e=>(db,no e)
   | none=>match updGo (scope (tabD db i).name (tabD db i)) (cond s.whr) ks (s.items.map (·.tree)) (tabD db i).rows with
    | .error e=>(db,no e)
    | .ok z=>(setRows db i z.1,⟨[],z.2,0⟩)
def srcsGo (db:DB):List (List UInt8)->List It->Out (List Nat)
 | _,[]=>.ok []
 | called,it :: its=>match tabAt db it.name with
  | none=>.error 2
  | some i=>if called.contains it.other=true then .error 2 else
   match srcsGo db (called++[it.other]) its with
   | .error e=>.error e
   | .ok is=>.ok (i :: is)
def scopes (db:DB):List Nat->List It->List Col
 | i :: is,it :: its=>scope it.other (tabD db i)++scopes db is its
 | _,_=>[]
def onsGo (db:DB):List Col->List Nat->List It->Option Nat
 | cols,i :: is,it :: its=>match tcAs (cols++scope it.other (tabD db i)) it.tree 3 with
  | some e=>some e
  | none=>onsGo db (cols++scope it.other (tabD db i)) is its
 | _,_,_=>none
def beside (cols:List Col)(c:T)(r:List V):List (List V)->Out (List (List V))
 | []=>.ok []
 | q :: qs=>match ev cols (r++q) c with
  | .error e=>.error e
  | .ok v=>match beside cols c r qs with
   | .error e=>.error e
   | .ok z=>.ok (@ite _ (v=tru true) (decV v (tru true)) ((r++q) :: z) z)
def joinRows (cols:List Col)(c:T)(left:Bool)(n:Nat)(qs:List (List V)):List (List V)->Out (List (List V))
 | []=>.ok []
 | r :: rs=>match beside cols c r qs with
  | .error e=>.error e
  | .ok z=>match joinRows cols c left n qs rs with
   | .error e=>.error e
   | .ok y=>.ok ((if (left && z.isEmpty)=true then [r++List.replicate n nul] else z)++y)
def joinsGo (db:DB):List Col->List (List V)->List Nat->List It->Out (List (List V))
 | cols,rows,i :: is,it :: its=>match joinRows (cols++scope it.other (tabD db i)) it.tree it.mark (tabD db i).cols.length (tabD db i).rows rows with
  | .error e=>.error e
  | .ok z=>joinsGo db (cols++scope it.other (tabD db i)) z is its
 | _,rows,_,_=>.ok rows
def stars (cols:List Col):List T:=cols.map (fun c=>tName c.src c.name)
def cmpRanks:List V->List V->List Bool->Int
 | a :: as,b :: bs,d :: ds=>if order a b=0 then cmpRanks as bs ds else if d=true then - order a b else order a b
 | _,_,_=>0
def ins {α:Type}(le:α->α->Bool)(x:α):List α->List α
 | []=>[x]
 | y :: ys=>if le x y=true then x :: y :: ys else y :: ins le x ys
def isort {α:Type}(le:α->α->Bool):List α->List α
 | []=>[]
 | x :: xs=>ins le x (isort le xs)
def sorted (rows ranks:List (List V))(ds:List Bool):List (List V) :=
 (isort (fun a b=>decide (cmpRanks a.1 b.1 ds<=0)) (ranks.zip rows)).map (·.2)
def rowSame:List V->List V->Bool
 | [],[]=>true
 | a :: as,b :: bs=>V.same a b && rowSame as bs
 | _,_=>false
def onceGo:List (List V)->List (List V)->List (List V)
 | _,[]=>[]
 | met,r :: rs=>if met.any (rowSame r)=true then onceGo met rs else r :: onceGo (met++[r]) rs
def once (rows:List (List V)):List (List V):=onceGo [] rows
def window (rows:List (List V))(offset limit:Int):List (List V) :=
 if limit<0 then rows.drop offset.toNat else (rows.drop offset.toNat).take limit.toNat
def valuesOf (s:St)(cols:List Col):List T:=if s.all=true then stars cols else s.items.map (·.tree)
def chosen (cols:List Col)(s:St)(rows:List (List V)):Out (List (List V)):=match sift cols (cond s.whr) rows with
 | .error e=>.error e
 | .ok z=>match evRows cols (s.keys.map (·.tree)) z.1 with
  | .error e=>.error e
  | .ok ranks=>match evRows cols (valuesOf s cols) (sorted z.1 ranks (s.keys.map (·.mark))) with
   | .error e=>.error e
   | .ok out=>.ok (window (if s.distinct=true then once out else out) s.offset s.limit)
def doSelect (db:DB)(s:St):DB × Ans:=match srcsGo db [] s.sources with
 | .error e=>(db,no e)
 | .ok is =>
  match onsGo db (scopes db (is.take 1) (s.sources.take 1)) (is.drop 1) (s.sources.drop 1) with
  | some e=>(db,no e)
  | none=>match tcAll (scopes db is s.sources) (valuesOf s (scopes db is s.sources)) with
   | some e=>(db,no e)
   | none=>match tcAs (scopes db is s.sources) (cond s.whr) 3 with
    | some e=>(db,no e)
    | none=>match tcAll (scopes db is s.sources) (s.keys.map (·.tree)) with
     | some e=>(db,no e)
     | none=>match joinsGo db (scopes db (is.take 1) (s.sources.take 1)) (tabD db (is.headD 0)).rows (is.drop 1) (s.sources.drop 1) with
      | .error e=>(db,no e)
      | .ok rows=>match chosen (scopes db is s.sources) s rows with
       | .error e=>(db,no e)
       | .ok out=>(db,⟨out,0,0⟩)
def doSt (db:DB)(s:St):DB × Ans :=
 if s.kind=99 then doCreate db s else if s.kind=105 then doInsert db s else if s.kind=100 then doDelete db s else if s.kind=117 then doUpdate db s else doSelect db s
def exec (db:DB)(text:List UInt8):DB × Ans:=match pParse text with
 | none=>(db,no 1)
 | some s=>doSt db s
def sepJoin (sep:List UInt8):List (List UInt8)->List UInt8
 | []=>[]
 | [x]=>x
 | x :: y :: r=>x++sep++sepJoin sep (y :: r)
def decGo:Nat->Nat->List UInt8->List UInt8
 | 0,_,acc=>acc
 | f+1,n,acc=>if n<10 then UInt8.ofNat (48+n) :: acc else decGo f (n / 10) (UInt8.ofNat (48+n % 10) :: acc)
def dec (n:Nat):List UInt8:=decGo 20 n []
def numText (n:Int):List UInt8:=if n=-9223372036854775808 then [45,57,50,50,51,51,55,50,48,51,54,56,53,52,55,55,53,56,48,55,32,45,32,49] else if n<0 then 45 :: dec (-n).toNat else dec n.toNat
def quote:List UInt8->List UInt8
 | []=>[]
 | c :: r=>if c=39 then 39 :: 39 :: quote r else c :: quote r
def valText (v:V):List UInt8 :=
 if v.kind=1 then numText v.n else if v.kind=2 then 39 :: (quote v.s++[39]) else if v.kind=3 then (if v.n=1 then [84,82,85,69] else [70,65,76,83,69]) else [78,85,76,76]
def typeText (t:Int):List UInt8:=if t=1 then [73,78,84] else if t=2 then [84,69,88,84] else [66,79,79,76]
def brackets (l:List (List UInt8)):List UInt8:=40 :: (sepJoin [44,32] l++[41])
def colText (c:List UInt8 × Int):List UInt8:=c.1++32 :: typeText c.2
def rowLine (name:List UInt8)(row:List V):List UInt8 :=
 [73,78,83,69,82,84,32,73,78,84,79,32]++name++[32,86,65,76,85,69,83,32]++brackets (row.map valText)++[10]
def tabText (t:Tab):List UInt8 :=
 [67,82,69,65,84,69,32,84,65,66,76,69,32]++t.name++[32]++brackets (t.cols.map colText)++[10]++(t.rows.map (rowLine t.name)).flatten
def save (db:DB):List UInt8:=(db.map tabText).flatten
end Pl
namespace Pl
open Go.Deep
end Pl
namespace Pl
open Go.Deep
set_option linter.unusedVariables false
def Sg (n:Nat)(ts:List Tok)(x:T):Prop:=∀ m rest,n<=m->(hd rest).k≠10->(lv m).single (ts++rest)=some (x,rest)/\(hd (ts++rest)).k≠16/\(hd (ts++rest)).k≠43
end Pl
namespace Pl
open Go.Deep
def okT (t:T):Prop:=Wf t/\WfK t/\sz t<=600
def okW (t:T):Prop:=t=.nil\/okT t
structure okSt (s:St):Prop where
 kind:s.kind=99\/s.kind=105\/s.kind=100\/s.kind=117\/s.kind=115
 len:s.items.length<=600
 tname:s.table.length<=10
 create:s.kind=99->s.items.length<=5/\∀ i ∈ s.items,(i.type=1\/i.type=2\/i.type=3)/\i.name.length<=10
 items:s.kind≠99->∀ i ∈ s.items,okT i.tree
 whr:okW s.whr
 klen:s.keys.length<=600
 keys:∀ i ∈ s.keys,okT i.tree
 sources:s.kind=115->∃ a r,s.sources=a :: r/\a.tree=.nil/\a.mark=false/\r.length<=2/\∀ i ∈ r,okT i.tree
 limit:s.limit=-1\/(0<=s.limit/\s.limit<=9223372036854775807)
 offset:0<=s.offset/\s.offset<=9223372036854775807
 some_:s.kind=105\/s.kind=99->s.items≠[]
def GoodI (q:It->Prop)(p:PI):Prop:=∀ ts x r,TokOk ts->ts.length<=600->p ts=some (x,r)->q x/\r.length<ts.length/\TokOk r
theorem good_lt {p:P}(h:Good p){ts r:List Tok}{x:T}(ht:TokOk ts)(hl:ts.length<=600)(hp:p ts=some (x,r)):okT x/\r.length<ts.length/\TokOk r:=by
 obtain ⟨h1,h2,h3,h4⟩:=h ts x r ht hp
 have:1<=sz x:=by
  cases x with
  | nil=>exact absurd h1 id
  | node=>simp [sz]
 exact ⟨⟨h1,h2,by omega⟩,by omega,h4⟩
theorem more_good {q:It->Prop}{p:PI}(hp:GoodI q p):∀ (f:Nat)(acc:List It)(ts:List Tok)(l:List It)(r:List Tok),TokOk ts->ts.length<=600->(∀ i ∈ acc,q i)->more p f acc ts=some (l,r)->(∀ i ∈ l,q i)/\l.length+r.length<=acc.length+ts.length/\acc.length<l.length/\r.length<=ts.length/\TokOk r
 | 0,_,_,_,_,_,_,_,h=>by simp [more] at h
 | f+1,acc,ts,l,r,ht,hl,ha,h=>by
  unfold more at h
  cases hz:p ts with
  | none=>rw [hz] at h;cases h
  | some z =>
   obtain ⟨x,r1⟩:=z
   rw [hz] at h
   obtain ⟨h1,h2,h3⟩:=hp ts x r1 ht hl hz
   have ha':∀ i ∈ acc++[x],q i:=by
    intro i hi
    rcases List.mem_append.1 hi with hi|hi
    ·exact ha i hi
    ·simp at hi;subst hi;exact h1
   simp only at h
   split at h
   ·have t1:=tail_le r1
    obtain ⟨a1,a2,a3,a4,a5⟩:=more_good hp f _ _ _ _ h3.tail (by omega) ha' h
    simp only [List.length_append,List.length_singleton] at a2 a3
    exact ⟨a1,by omega,by omega,by omega,a5⟩
   ·simp at h
    obtain ⟨rfl,rfl⟩:=h
    exact ⟨ha',by simp;omega,by simp,by omega,h3⟩
theorem listed_good {q:It->Prop}{p:PI}(hp:GoodI q p){ts:List Tok}{l:List It}{r:List Tok}(ht:TokOk ts)(hl:ts.length<=600)(h:listed p ts=some (l,r)):(∀ i ∈ l,q i)/\l.length+r.length<=ts.length/\l≠[]/\r.length<=ts.length/\TokOk r:=by
 obtain ⟨a1,a2,a3,a4,a5⟩:=more_good hp _ [] ts l r ht hl (by simp) h
 simp at a2 a3
 exact ⟨a1,a2,by intro e;subst e;simp at a3,a4,a5⟩
theorem iValue_good:GoodI (fun i=>okT i.tree) iValue:=by
 intro ts x r ht hl h
 unfold iValue at h
 split at h
 ·cases h
 ·rename_i y r1 hz
  simp at h;obtain ⟨rfl,rfl⟩:=h
  exact good_lt val_good ht hl hz
theorem iField_good:GoodI (fun i=>(i.type=1\/i.type=2\/i.type=3)/\i.name.length<=10) iField:=by
 intro ts x r ht hl h
 unfold iField at h
 split at h
 ·rename_i h1
  split at h
  ·cases h
  ·rename_i t htt
   simp at h;obtain ⟨rfl,rfl⟩:=h
   refine ⟨⟨?_,(ht.hd.2.2 h1).1⟩,?_,ht.tail.tail⟩
   ·unfold typeOf at htt
    simp only
    repeat' split at htt
    all_goals first
     | (cases htt;done)
     | (simp at htt;omega)
   ·have:=tail_lt h1 (by decide);have:=tail_le ts.tail;omega
 ·cases h
theorem iSet_good:GoodI (fun i=>okT i.tree) iSet:=by
 intro ts x r ht hl h
 have t1:=tail_le ts
 have t2:=tail_le ts.tail
 unfold iSet at h
 split at h
 ·split at h
  ·split at h
   ·cases h
   ·rename_i y r1 hz
    simp at h;obtain ⟨rfl,rfl⟩:=h
    obtain ⟨a,b,c⟩:=good_lt val_good ht.tail.tail (by omega) hz
    exact ⟨a,by omega,c⟩
  ·cases h
 ·cases h
theorem iKey_good:GoodI (fun i=>okT i.tree) iKey:=by
 intro ts x r ht hl h
 unfold iKey at h
 split at h
 ·cases h
 ·rename_i y r1 hz
  obtain ⟨a,b,c⟩:=good_lt val_good ht hl hz
  have t1:=tail_le r1
  split at h
  ·simp at h;obtain ⟨rfl,rfl⟩:=h;exact ⟨a,by omega,c.tail⟩
  ·simp at h;obtain ⟨rfl,rfl⟩:=h;exact ⟨a,b,c⟩
theorem iSource_good:GoodI (fun i=>i.tree=.nil/\i.mark=false) iSource:=by
 intro ts x r ht hl h
 have t2:=tail_le ts.tail
 have t3:=tail_le ts.tail.tail
 unfold iSource at h
 split at h
 ·rename_i h1
  have t1:=tail_lt h1 (by decide)
  repeat' (split at h)
  all_goals first
   | (cases h;done)
   | (simp at h;obtain ⟨rfl,rfl⟩:=h;exact ⟨⟨rfl,rfl⟩,by omega,by first|exact ht.tail|exact ht.tail.tail.tail⟩)
 ·cases h
theorem iJoin_good (left:Bool):GoodI (fun i=>okT i.tree) (iJoin left):=by
 intro ts x r ht hl h
 unfold iJoin at h
 split at h
 ·cases h
 ·rename_i it r1 hs
  obtain ⟨_,h2,h3⟩:=iSource_good ts it r1 ht hl hs
  have t1:=tail_le r1
  split at h
  ·split at h
   ·cases h
   ·rename_i y r2 hv
    obtain ⟨a,b,c⟩:=good_lt val_good h3.tail (by omega) hv
    simp at h;obtain ⟨rfl,rfl⟩:=h
    exact ⟨a,by omega,c⟩
  ·cases h
theorem joins_good:∀ (f:Nat)(acc:List It)(ts:List Tok)(l:List It)(r:List Tok),TokOk ts->ts.length<=600->joins f acc ts=some (l,r)->(∃ m,l=acc++m/\∀ i ∈ m,okT i.tree)/\r.length<=ts.length/\TokOk r
 | 0,_,_,_,_,_,_,h=>by simp [joins] at h
 | f+1,acc,ts,l,r,ht,hl,h=>by
  have t1:=tail_le ts
  have t2:=tail_le ts.tail
  have key:∀ (left:Bool) (u:List Tok),TokOk u->u.length<=ts.length->(match iJoin left u with|none=>none|some (it,r)=>joins f (acc++[it]) r)=some (l,r)->(∃ m,l=acc++m/\∀ i ∈ m,okT i.tree)/\r.length<=ts.length/\TokOk r:=by
   intro left u hu hul h
   cases hz:iJoin left u with
   | none=>rw [hz] at h;cases h
   | some z =>
    obtain ⟨it,r1⟩:=z
    rw [hz] at h
    obtain ⟨a,b,c⟩:=iJoin_good left u it r1 hu (by omega) hz
    obtain ⟨⟨m,rfl,hm⟩,h2,h3⟩:=joins_good f _ _ _ _ c (by omega) h
    refine ⟨⟨it :: m,by simp,?_⟩,by omega,h3⟩
    intro i hi
    rcases List.mem_cons.1 hi with rfl|hi
    ·exact a
    ·exact hm i hi
  unfold joins at h
  split at h
  ·split at h
   ·exact key true _ ht.tail.tail (by omega) h
   ·cases h
  ·split at h
   ·exact key false _ ht.tail (by omega) h
   ·simp at h;obtain ⟨rfl,rfl⟩:=h
    exact ⟨⟨[],by simp,by simp⟩,Nat.le_refl _,ht⟩
theorem sources_good {ts:List Tok}{l:List It}{r:List Tok}(ht:TokOk ts)(hl:ts.length<=600)(h:pSources ts=some (l,r)):(∃ a m,l=a :: m/\a.tree=.nil/\a.mark=false/\∀ i ∈ m,okT i.tree)/\r.length<=ts.length/\TokOk r:=by
 unfold pSources at h
 split at h
 ·cases h
 ·rename_i it r1 hs
  obtain ⟨h1,h2,h3⟩:=iSource_good ts it r1 ht hl hs
  obtain ⟨⟨m,rfl,hm⟩,h4,h5⟩:=joins_good _ _ _ _ _ h3 (by omega) h
  exact ⟨⟨it,m,by simp,h1.1,h1.2,hm⟩,by omega,h5⟩
theorem where_good {ts:List Tok}{x:T}{r:List Tok}(ht:TokOk ts)(hl:ts.length<=600)(h:pWhere ts=some (x,r)):okW x/\r.length<=ts.length/\TokOk r:=by
 have t1:=tail_le ts
 unfold pWhere at h
 split at h
 ·obtain ⟨a,b,c⟩:=good_lt val_good ht.tail (by omega) h
  exact ⟨.inr a,by omega,c⟩
 ·simp at h;obtain ⟨rfl,rfl⟩:=h;exact ⟨.inl rfl,Nat.le_refl _,ht⟩
theorem limit_good {ts:List Tok}{z:Int × Int}{r:List Tok}(ht:TokOk ts)(h:pLimit ts=some (z,r)):(z.1=-1\/(0<=z.1/\z.1<=9223372036854775807))/\(0<=z.2/\z.2<=9223372036854775807):=by
 unfold pLimit at h
 split at h
 ·split at h
  ·rename_i h2
   have a:=ht.tail.hd.1 h2
   split at h
   ·split at h
    ·rename_i h3
     have b:=ht.tail.tail.tail.hd.1 h3
     simp at h;obtain ⟨rfl,rfl⟩:=h
     exact ⟨.inr a,b⟩
    ·cases h
   ·simp at h;obtain ⟨rfl,rfl⟩:=h
    exact ⟨.inr a,by simp⟩
  ·cases h
 ·simp at h;obtain ⟨rfl,rfl⟩:=h
  exact ⟨.inl rfl,by simp⟩
theorem keys_good {ts:List Tok}{l:List It}{r:List Tok}(ht:TokOk ts)(hl:ts.length<=600)(h:pKeys ts=some (l,r)):(∀ i ∈ l,okT i.tree)/\l.length<=600/\TokOk r:=by
 have t1:=tail_le ts
 have t2:=tail_le ts.tail
 unfold pKeys at h
 split at h
 ·split at h
  ·obtain ⟨a,b,c,d,e⟩:=listed_good iKey_good ht.tail.tail (by omega) h
   exact ⟨a,by omega,e⟩
  ·cases h
 ·simp at h;obtain ⟨rfl,rfl⟩:=h
  exact ⟨by simp,by simp,ht⟩
theorem query_good {ts:List Tok}{s:St}{r:List Tok}(ht:TokOk ts)(hl:ts.length<=600)(h:pQuery ts=some (s,r)):okSt s:=by
 have hdis:TokOk (pDis ts)/\(pDis ts).length<=600:=by
  have t1:=tail_le ts
  unfold pDis
  split
  ·exact ⟨ht.tail,by omega⟩
  ·exact ⟨ht,hl⟩
 cases hz:pTold (pDis ts) with
 | none=>rw [query_none hz] at h;cases h
 | some z =>
  obtain ⟨⟨all,items⟩,r1⟩:=z
  rw [query_some hz] at h
  have hi:(∀ i ∈ items,okT i.tree)/\items.length<=600/\r1.length<=600/\TokOk r1:=by
   obtain ⟨hd1,hd2⟩:=hdis
   unfold pTold at hz
   split at hz
   ·simp at hz;obtain ⟨⟨_,rfl⟩,rfl⟩:=hz
    have:=tail_le (pDis ts)
    exact ⟨by simp,by simp,by omega,hd1.tail⟩
   ·split at hz
    ·cases hz
    ·rename_i l r2 hl2
     simp at hz;obtain ⟨⟨_,rfl⟩,rfl⟩:=hz
     obtain ⟨a,b,c,d,e⟩:=listed_good iValue_good hd1 hd2 hl2
     exact ⟨a,by omega,by omega,e⟩
  obtain ⟨hi1,hi2,hi3,hi4⟩:=hi
  unfold pFrom at h
  split at h
  ·have t1:=tail_le r1
   cases hs:pSources r1.tail with
   | none=>rw [hs] at h;cases h
   | some y =>
    obtain ⟨srcs,r3⟩:=y
    obtain ⟨⟨a,m,rfl,ha1,ha2,hm⟩,hr3,ht3⟩:=sources_good hi4.tail (by omega) hs
    rw [hs] at h
    simp only [pFrom1] at h
    split at h
    ·cases h
    ·rename_i hlen
     unfold pTail at h
     cases hw:pWhere r3 with
     | none=>rw [hw] at h;cases h
     | some y2 =>
      obtain ⟨wh,r4⟩:=y2
      obtain ⟨hwo,hr4,ht4⟩:=where_good ht3 (by omega) hw
      rw [hw] at h
      simp only [pTail1] at h
      cases hk:pKeys r4 with
      | none=>rw [hk] at h;cases h
      | some y3 =>
       obtain ⟨keys,r5⟩:=y3
       obtain ⟨hk1,hk2,ht5⟩:=keys_good ht4 (by omega) hk
       rw [hk] at h
       simp only [pTail2] at h
       unfold pLast at h
       cases hlm:pLimit r5 with
       | none=>rw [hlm] at h;cases h
       | some y4 =>
        obtain ⟨z4,r6⟩:=y4
        obtain ⟨g1,g2⟩:=limit_good ht5 hlm
        rw [hlm] at h
        simp at h
        obtain ⟨rfl,rfl⟩:=h
        refine ⟨by simp,hi2,by simp,by simp,fun _=>hi1,hwo,hk2,hk1,fun _=>⟨a,m,rfl,ha1,ha2,?_,hm⟩,g1,g2,by simp⟩
        simp at hlen;omega
  ·cases h
theorem st0_good {k:Int}{nm:List UInt8}{its:List It}{wh:T}(hk:k=99\/k=105\/k=100\/k=117)(h1:its.length<=600)(h2:nm.length<=10)(h3:k=99->its.length<=5/\∀ i ∈ its,(i.type=1\/i.type=2\/i.type=3)/\i.name.length<=10)(h4:k≠99->∀ i ∈ its,okT i.tree)(h5:okW wh)(h6:k=105\/k=99->its≠[]):okSt (st0 k nm its wh):=by
 unfold st0
 refine ⟨by rcases hk with h|h|h|h <;> simp [h],h1,h2,h3,h4,h5,by simp,by simp,fun h=>?_,by simp,by simp,h6⟩
 simp only at h
 omega
theorem inOpen_good {q:It->Prop}{p:PI}(hp:GoodI q p){ts:List Tok}{l:List It}{r:List Tok}(ht:TokOk ts)(hl:ts.length<=600)(h:inOpen p ts=some (l,r)):(∀ i ∈ l,q i)/\l.length<=600/\l≠[]:=by
 have t1:=tail_le ts
 unfold inOpen at h
 split at h
 ·split at h
  ·cases h
  ·rename_i l1 r1 hz
   obtain ⟨a,b,c,d,e⟩:=listed_good hp ht.tail (by omega) hz
   split at h
   ·simp at h;obtain ⟨rfl,rfl⟩:=h
    exact ⟨a,by omega,c⟩
   ·cases h
 ·cases h
theorem statement_good {ts:List Tok}{s:St}{r:List Tok}(ht:TokOk ts)(hl:ts.length<=600)(h:pStatement ts=some (s,r)):okSt s:=by
 have t1:=tail_le ts
 have t2:=tail_le ts.tail
 have t3:=tail_le ts.tail.tail
 have t4:=tail_le ts.tail.tail.tail
 unfold pStatement at h
 split at h
 ·unfold pCreate at h
  split at h
  ·split at h
   ·rename_i h1
    split at h
    ·cases h
    ·rename_i l r1 hz
     obtain ⟨a,b,c⟩:=inOpen_good iField_good ht.tail.tail.tail (by omega) hz
     split at h
     ·cases h
     ·rename_i h5
      simp at h;obtain ⟨rfl,rfl⟩:=h
      exact st0_good (.inl rfl) b (ht.tail.tail.hd.2.2 h1).1 (fun _=>⟨by omega,a⟩) (fun h=>absurd rfl h) (.inl rfl) (fun _=>c)
   ·cases h
  ·cases h
 split at h
 ·unfold pInsert at h
  split at h
  ·split at h
   ·rename_i h1
    split at h
    ·split at h
     ·cases h
     ·rename_i l r1 hz
      have t5:=tail_le ts.tail.tail.tail.tail
      obtain ⟨a,b,c⟩:=inOpen_good iValue_good ht.tail.tail.tail.tail (by omega) hz
      simp at h;obtain ⟨rfl,rfl⟩:=h
      exact st0_good (.inr (.inl rfl)) b (ht.tail.tail.hd.2.2 h1).1 (fun h=>by simp at h) (fun _=>a) (.inl rfl) (fun _=>c)
    ·cases h
   ·cases h
  ·cases h
 split at h
 ·unfold pDelete at h
  split at h
  ·split at h
   ·rename_i h1
    split at h
    ·cases h
    ·rename_i wh r1 hz
     obtain ⟨a,b,c⟩:=where_good ht.tail.tail.tail (by omega) hz
     simp at h;obtain ⟨rfl,rfl⟩:=h
     exact st0_good (.inr (.inr (.inl rfl))) (by simp) (ht.tail.tail.hd.2.2 h1).1 (fun h=>by simp at h) (fun _=>by simp) a (fun h=>by omega)
   ·cases h
  ·cases h
 split at h
 ·unfold pUpdate at h
  split at h
  ·rename_i h1
   split at h
   ·split at h
    ·cases h
    ·rename_i l r1 hz
     obtain ⟨a,b,c,d,e⟩:=listed_good iSet_good ht.tail.tail.tail (by omega) hz
     split at h
     ·cases h
     ·rename_i wh r2 hw
      obtain ⟨a2,b2,c2⟩:=where_good e (by omega) hw
      simp at h;obtain ⟨rfl,rfl⟩:=h
      exact st0_good (.inr (.inr (.inr rfl))) (by omega) (ht.tail.hd.2.2 h1).1 (fun h=>by simp at h) (fun _=>a) a2 (fun h=>by omega)
   ·cases h
  ·cases h
 split at h
 ·exact query_good ht.tail (by omega) h
 ·cases h
theorem parse_ok {l:List UInt8}{s:St}(h:pParse l=some s):okSt s:=by
 unfold pParse at h
 split at h
 ·cases h
 ·rename_i hl
  have h1:=toks_ok _ l (Nat.lt_succ_self _)
  have h2:=toks_length _ l (Nat.lt_succ_self _)
  cases hz:pStatement (toks l) with
  | none=>rw [hz] at h;cases h
  | some z =>
   obtain ⟨s1,r⟩:=z
   rw [hz] at h
   simp only [pEnd] at h
   split at h
   ·simp at h;subst h
    exact statement_good h1 (by omega) hz
   ·cases h
end Pl
namespace Pl
end Pl
namespace Pl
open Go.Deep
theorem u8_lt {a b:UInt8}:a<b ↔ a.toNat<b.toNat:=Iff.rfl
def ordT (a b:V):Int:=if a.kind=b.kind then (if a.kind=0 then 0 else if a.kind=2 then Lib.compareBytes a.s b.s else Lib.compareInt a.n b.n) else Lib.compareInt a.kind b.kind
theorem cmpI_zero {x y:Int}:Lib.compareInt x y=0 ↔ x=y:=by
 unfold Lib.compareInt;repeat' split
 all_goals omega
def ofType (ty:Int)(v:V):Prop:=v.kind=0\/v.kind=ty
theorem order_ordT {ty:Int}{a b:V}(ha:ofType ty a)(hb:ofType ty b):order a b=ordT a b:=by
 unfold order ordT V.miss
 by_cases h:a.kind=b.kind
 ·rw [if_pos h]
  by_cases h0:a.kind=0
  ·rw [if_pos h0,if_pos (by simp [h0]),cmpI_zero.2 h]
  ·rw [if_neg h0,if_neg (by simp [h0,<- h])]
 ·rw [if_neg h]
  rw [if_pos (by unfold ofType at *;simp;omega)]
end Pl
namespace Pl
set_option linter.unusedVariables false
open Go.Deep
def okV (v:V):Prop:=(v.kind=0/\v.n=0/\v.s=[])\/(v.kind=1/\v.s=[]/\-9223372036854775808<=v.n/\v.n<=9223372036854775807)\/(v.kind=2/\v.n=0/\v.s.length<=40)\/(v.kind=3/\(v.n=0\/v.n=1)/\v.s=[])
theorem okV.range {v:V}(h:okV v) : -9223372036854775808<=v.n/\v.n<=9223372036854775807:=by
 rcases h with h|h|h|h <;> omega
theorem okV.kind {v:V}(h:okV v):0<=v.kind/\v.kind<=3:=by
 rcases h with h|h|h|h <;> omega
theorem ok_nul:okV nul:=.inl ⟨rfl,rfl,rfl⟩
theorem ok_tru (b:Bool):okV (tru b):=by cases b <;> exact .inr (.inr (.inr ⟨rfl,by simp [tru],rfl⟩))
theorem ok_ranged {n:Int}{v:V}(h:ranged n=.ok v):okV v/\v.kind=1:=by
 unfold ranged at h
 split at h
 ·cases h;exact ⟨.inr (.inl ⟨rfl,rfl,by assumption⟩),rfl⟩
 ·cases h
theorem ok_reckon {op:Nat}{a b:Int}{v:V}(ha : -9223372036854775808<=a/\a<=9223372036854775807)(h:reckon op a b=.ok v):okV v/\v.kind=1:=by
 unfold reckon at h
 repeat' (split at h)
 all_goals first
  | (cases h;done)
  | exact ok_ranged h
  | (cases h
     refine ⟨.inr (.inl ⟨rfl,rfl,?_⟩),rfl⟩
     show -9223372036854775808<=Int.tmod a b/\Int.tmod a b<=9223372036854775807
     have h1:(Int.tmod a b).natAbs<=a.natAbs:=by rw [Int.natAbs_tmod];exact Nat.mod_le _ _
     have h2:0<=a->0<=Int.tmod a b:=fun h=>Int.tmod_nonneg b h
     have h3:a<=0->Int.tmod a b<=0:=fun h=>by
      have:=Int.tmod_nonneg (a:=-a) b (by omega)
      rw [Int.neg_tmod] at this;omega
     rcases Int.le_total 0 a with h|h
     ·have:=h2 h;omega
     ·have:=h3 h;omega)
theorem ok_ap1 {op:Nat}{v u:V}(hv:okV v)(h:ap1 op v=.ok u):okV u:=by
 unfold ap1 at h
 split at h
 ·unfold neg at h
  split at h
  ·cases h;exact hv
  ·exact (ok_ranged h).1
 ·split at h
  ·cases h
   unfold opp;split
   ·exact hv
   ·exact ok_tru _
  ·cases h;exact ok_tru _
theorem ok_ap2 {op:Nat}{l r u:V}(hl:okV l)(hr:okV r)(h:ap2 op l r=.ok u):okV u:=by
 unfold ap2 at h
 split at h
 ·cases h
  unfold joined;split <;> assumption
 ·split at h
  ·cases h;exact ok_nul
  ·split at h
   ·exact (ok_reckon hl.range h).1
   ·cases h;exact ok_tru _
def okRow (row:List V):Prop:=∀ v ∈ row,okV v
theorem getD_ok {row:List V}(h:okRow row)(i:Nat):okV (row.getD i nul):=by
 rw [List.getD_eq_getElem?_getD]
 cases hi:row[i]? with
 | none=>exact ok_nul
 | some v=>exact h v (List.mem_of_getElem? hi)
theorem ev_ok (cols:List Col){row:List V}(hrow:okRow row):∀ {t:T}{v:V},WfK t->ev cols row t=.ok v->okV v
 | .nil,v,_,h=>by cases h;exact ok_nul
 | .node a1 a2 p l r,v,hk,h=>by
  obtain ⟨k0,kl,kr⟩:=hk
  unfold ev at h
  split at h
  ·rename_i h0
   cases h
   have:=k0 h0
   unfold okV litOf
   simp only
   rcases this with h|h|h|h
   ·exact .inl h
   ·exact .inr (.inl ⟨h.1,h.2.1,by omega,h.2.2.2⟩)
   ·exact .inr (.inr (.inl h))
   ·exact .inr (.inr (.inr h))
  ·split at h
   ·cases h;exact getD_ok hrow _
   ·cases hl:ev cols row l with
    | error e=>rw [hl] at h;cases h
    | ok a =>
     have ha:=ev_ok cols hrow kl hl
     rw [hl] at h;simp only at h
     split at h
     ·exact ok_ap1 ha h
     ·split at h
      ·cases h;exact ha
      ·cases hr:ev cols row r with
       | error e=>rw [hr] at h;cases h
       | ok b =>
        rw [hr] at h;simp only at h
        exact ok_ap2 ha (ev_ok cols hrow kr hr) h
def rowOf (cols:List Col)(row:List V):Prop:=∀ (i:Nat),ofType (typeAt cols i) (row.getD i nul)
theorem fit_ok {op:Nat}{a b ty:Int}(h:fit op a b=.ok ty):ty=gives op/\alike a (takes op)=true/\alike b (takes op)=true/\alike a b=true:=by
 unfold fit at h
 split at h
 ·rename_i hc
  cases h
  simp at hc
  exact ⟨rfl,hc.1.1,hc.1.2,hc.2⟩
 ·cases h
theorem ap1_type {op:Nat}{v u:V}{a:Int}(h2:2<=op)(h5:op<=5)(hv:ofType a v)(ha:alike a (takes op)=true)(h:ap1 op v=.ok u):ofType (gives op) u:=by
 unfold ap1 at h
 split at h
 ·rename_i e;subst e
  unfold neg at h
  split at h
  ·rename_i hm;cases h;left;simpa [V.miss] using hm
  ·right;exact (ok_ranged h).2
 ·have hg:gives op=3:=by unfold gives;rw [if_neg (by omega)]
  rw [hg]
  split at h
  ·cases h
   unfold opp;split
   ·rename_i hm;left;simpa [V.miss] using hm
   ·right;rfl
  ·cases h;right;rfl
theorem ap2_type {op:Nat}{l r u:V}{a b:Int}(h6:6<=op)(h18:op<=18)(hl:okV l)(hr:okV r)(tl:ofType a l)(tr:ofType b r)(ha:alike a (takes op)=true)(hb:alike b (takes op)=true)(h:ap2 op l r=.ok u):ofType (gives op) u:=by
 unfold ap2 at h
 split at h
 ·rename_i h17
  cases h
  have hg:gives op=3:=by unfold gives;rw [if_neg (by omega)]
  have ht:takes op=3:=by unfold takes;rw [if_pos (by omega)]
  rw [hg]
  rw [ht] at ha hb
  simp [alike] at ha hb
  unfold joined;split
  ·unfold ofType at *;omega
  ·unfold ofType at *;omega
 ·split at h
  ·cases h;left;rfl
  ·split at h
   ·have hg:gives op=1:=by unfold gives;rw [if_pos (by omega)]
    rw [hg];right;exact (ok_reckon hl.range h).2
   ·have hg:gives op=3:=by unfold gives;rw [if_neg (by omega)]
    rw [hg];cases h;right;rfl
theorem ev_type {cols:List Col}{row:List V}(hrow:okRow row)(hty:rowOf cols row):∀ {t:T}{v:V}{ty:Int},Wf t->WfK t->tc cols t=.ok ty->ev cols row t=.ok v->ofType ty v
 | .nil,_,_,hw,_,_,_=>absurd hw id
 | .node a1 a2 p l r,v,ty,hw,hk,ht,h=>by
  obtain ⟨hop,_,hwr,hwl⟩:=hw
  obtain ⟨_,kl,kr⟩:=hk
  unfold ev at h
  unfold tc at ht
  split at h
  ·rename_i h0
   rw [if_pos h0] at ht
   cases h;cases ht
   right;rfl
  ·rename_i h0
   rw [if_neg h0] at ht
   split at h
   ·rename_i h1
    rw [if_pos h1] at ht
    cases h
    unfold idx
    cases hc:colAt cols p.src p.name with
    | none=>rw [hc] at ht;cases ht
    | some i=>rw [hc] at ht;cases ht;exact hty i
   ·rename_i h1
    rw [if_neg h1] at ht
    cases tl:tc cols l with
    | error e=>rw [tl] at ht;cases ht
    | ok a =>
     rw [tl] at ht;simp only at ht
     cases hl:ev cols row l with
     | error e=>rw [hl] at h;cases h
     | ok x =>
      rw [hl] at h;simp only at h
      have hx:=ev_type hrow hty (hwl (by omega)) kl tl hl
      split at h
      ·rename_i h5
       rw [if_pos h5] at ht
       obtain ⟨rfl,f1,_,_⟩:=fit_ok ht
       exact ap1_type (by omega) h5 hx f1 h
      ·rename_i h5
       rw [if_neg h5] at ht
       cases tr:tc cols r with
       | error e=>rw [tr] at ht;cases ht
       | ok b =>
        rw [tr] at ht;simp only at ht
        obtain ⟨rfl,f1,f2,f3⟩:=fit_ok ht
        split at h
        ·rename_i h17
         cases h
         have hg:gives p.op=3:=by unfold gives;rw [if_neg (by omega)]
         rw [hg,h17.2];right;rfl
        ·cases hr:ev cols row r with
         | error e=>rw [hr] at h;cases h
         | ok y =>
          rw [hr] at h;simp only at h
          exact ap2_type (by omega) hop (ev_ok cols hrow kl hl) (ev_ok cols hrow kr hr) hx (ev_type hrow hty (hwr (by omega)) kr tr hr) f1 f2 h
end Pl
namespace Pl
open Go.Deep
def RowFor (cols:List Col)(row:List V):Prop:=row.length=cols.length/\okRow row/\rowOf cols row
structure okTab (t:Tab):Prop where
 ncols:t.cols.length<=5
 pos:1<=t.cols.length
 cols:∀ c ∈ t.cols,(c.2=1\/c.2=2\/c.2=3)/\c.1.length<=10
 name:t.name.length<=10
 nrows:t.rows.length<=25
 rows:∀ r ∈ t.rows,RowFor (scope [] t) r
def okDB (db:DB):Prop:=db.length<=6/\∀ t ∈ db,okTab t
theorem typeAt_scope (src:List UInt8)(t:Tab)(i:Nat):typeAt (scope src t) i=typeAt (scope [] t) i:=by
 unfold typeAt scope
 simp only [List.getElem?_map]
 cases t.cols[i]? <;> rfl
theorem typeAt_col (src:List UInt8)(t:Tab)(i:Nat):typeAt (scope src t) i=(t.cols.getD i ([],0)).2:=by
 unfold typeAt scope
 simp only [List.getElem?_map,List.getD]
 cases t.cols[i]? <;> rfl
theorem scope_len (src:List UInt8)(t:Tab):(scope src t).length=t.cols.length:=by simp [scope]
theorem RowFor.src {src:List UInt8}{t:Tab}{r:List V}(h:RowFor (scope [] t) r):RowFor (scope src t) r :=
 ⟨by rw [h.1,scope_len,scope_len],h.2.1,fun i=>by rw [typeAt_scope];exact h.2.2 i⟩
theorem RowFor.unsrc {src:List UInt8}{t:Tab}{r:List V}(h:RowFor (scope src t) r):RowFor (scope [] t) r :=
 ⟨by rw [h.1,scope_len,scope_len],h.2.1,fun i=>by rw [<- typeAt_scope src];exact h.2.2 i⟩
theorem RowFor.nil:RowFor [] []:=⟨rfl,fun v hv=>(by cases hv),fun i=>.inl rfl⟩
theorem evAll_ok {cols:List Col}{row:List V}(hr:RowFor cols row):∀ {ts:List T}{vs:List V},(∀ t ∈ ts,okT t)->evAll cols row ts=.ok vs->vs.length=ts.length/\okRow vs
 | [],vs,_,h=>by simp [evAll] at h;subst h;exact ⟨rfl,fun v hv=>by cases hv⟩
 | t :: ts,vs,ht,h=>by
  unfold evAll at h
  cases he:ev cols row t with
  | error e=>rw [he] at h;cases h
  | ok v =>
   rw [he] at h
   simp only at h
   cases hs:evAll cols row ts with
   | error e=>rw [hs] at h;cases h
   | ok us =>
    rw [hs] at h
    simp at h;subst h
    obtain ⟨a,b⟩:=evAll_ok hr (fun t h=>ht t (by simp [h])) hs
    refine ⟨by simp [a],fun u hu=>?_⟩
    rcases List.mem_cons.1 hu with rfl|hu
    ·exact ev_ok cols hr.2.1 (ht t (by simp)).2.1 he
    ·exact b u hu
theorem tcAs_ok {cols:List Col}{t:T}{w:Int}(h:tcAs cols t w=none):∃ ty,tc cols t=.ok ty/\alike ty w=true:=by
 unfold tcAs at h
 cases ht:tc cols t with
 | error e=>rw [ht] at h;cases h
 | ok a =>
  rw [ht] at h
  refine ⟨a,rfl,?_⟩
  simp only at h
  split at h
  ·assumption
  ·cases h
theorem tabAt_lt {db:DB}{name:List UInt8}{i:Nat}(h:tabAt db name=some i):i<db.length:=by
 unfold tabAt at h
 rw [List.findIdx?_eq_some_iff_findIdx_eq] at h
 exact h.1
theorem tabD_mem {db:DB}{i:Nat}(h:i<db.length):tabD db i ∈ db:=by
 unfold tabD
 rw [List.getD_eq_getElem?_getD,List.getElem?_eq_getElem h]
 exact List.getElem_mem h
theorem setRows_len (db:DB)(i:Nat)(rows:List (List V)):(setRows db i rows).length=db.length:=by simp [setRows]
theorem mem_setRows {db:DB}{i:Nat}{rows:List (List V)}{t:Tab}(hi:i<db.length)(h:t ∈ setRows db i rows):t ∈ db\/t=⟨(tabD db i).name,(tabD db i).cols,rows⟩:=by
 unfold setRows at h
 rw [List.mem_iff_getElem?] at h
 obtain ⟨j,hj⟩:=h
 rw [List.getElem?_modify] at hj
 by_cases he:i=j
 ·subst he
  rw [List.getElem?_eq_getElem hi] at hj
  simp at hj
  right
  rw [<- hj]
  unfold tabD
  rw [List.getD_eq_getElem?_getD,List.getElem?_eq_getElem hi]
  rfl
 ·left
  rw [List.mem_iff_getElem?]
  refine ⟨j,?_⟩
  cases hg:db[j]? with
  | none=>rw [hg] at hj;simp at hj
  | some x=>rw [hg] at hj;simp [he] at hj;rw [hj]
theorem okDB.set {db:DB}(h:okDB db){i:Nat}(hi:i<db.length){rows:List (List V)}(hn:rows.length<=25)(hr:∀ r ∈ rows,RowFor (scope [] (tabD db i)) r):okDB (setRows db i rows):=by
 refine ⟨by rw [setRows_len];exact h.1,fun t ht=>?_⟩
 rcases mem_setRows hi ht with ht|rfl
 ·exact h.2 t ht
 ·have:=h.2 _ (tabD_mem hi)
  exact ⟨this.ncols,this.pos,this.cols,this.name,hn,hr⟩
theorem row_fits:∀ {ts:List T}{cs:List (List UInt8 × Int)}{vs:List V},(∀ t ∈ ts,okT t)->(∀ c ∈ cs,c.2≠0)->ts.length=cs.length->tcRow ts (cs.map (·.2))=none->evAll [] [] ts=.ok vs->∀ i,ofType ((cs.getD i ([],0)).2) (vs.getD i nul)
 | [],[],vs,_,_,_,_,h,i=>by simp [evAll] at h;subst h;exact .inl rfl
 | [],c :: cs,_,_,_,hl,_,_,_=>by simp at hl
 | t :: ts,[],_,_,_,hl,_,_,_=>by simp at hl
 | t :: ts,c :: cs,vs,ht,hc,hl,htc,h,i=>by
  unfold evAll at h
  cases he:ev [] [] t with
  | error e=>rw [he] at h;cases h
  | ok v =>
   rw [he] at h
   simp only at h
   cases hs:evAll [] [] ts with
   | error e=>rw [hs] at h;cases h
   | ok us =>
    rw [hs] at h
    simp at h;subst h
    simp only [List.map_cons,tcRow] at htc
    cases ha:tcAs [] t c.2 with
    | some e=>rw [ha] at htc;cases htc
    | none =>
     rw [ha] at htc
     cases i with
     | zero =>
      obtain ⟨ty,hty,hal⟩:=tcAs_ok ha
      have:=ev_type RowFor.nil.2.1 RowFor.nil.2.2 (ht t (by simp)).1 (ht t (by simp)).2.1 hty he
      simp only [List.getD_cons_zero]
      rcases this with h0|h0
      ·exact .inl h0
      ·unfold alike at hal
       simp at hal
       rcases hal with (e|e)|e
       ·exact .inr (by rw [h0,e])
       ·exact .inl (by rw [h0,e])
       ·exact absurd e (hc c (by simp))
     | succ i =>
      simp only [List.getD_cons_succ]
      exact row_fits (fun t h=>ht t (by simp [h])) (fun c h=>hc c (by simp [h])) (by simpa using hl) htc hs i
theorem sift_ok {cols:List Col}{c:T}:∀ {rows:List (List V)}{z:List (List V) × List (List V)},sift cols c rows=.ok z->(∀ r ∈ z.1,r ∈ rows)/\(∀ r ∈ z.2,r ∈ rows)/\z.1.length+z.2.length=rows.length
 | [],z,h=>by simp [sift] at h;subst h;simp
 | r :: rs,z,h=>by
  unfold sift at h
  cases he:ev cols r c with
  | error e=>rw [he] at h;cases h
  | ok v =>
   rw [he] at h
   simp only at h
   cases hs:sift cols c rs with
   | error e=>rw [hs] at h;cases h
   | ok y =>
    rw [hs] at h
    simp only at h
    obtain ⟨a,b,d⟩:=sift_ok hs
    injection h with h
    split at h
    ·subst h
     refine ⟨fun x hx=>?_,fun x hx=>List.mem_cons_of_mem _ (b x hx),by simp;omega⟩
     rcases List.mem_cons.1 hx with rfl|hx
     ·simp
     ·exact List.mem_cons_of_mem _ (a x hx)
    ·subst h
     refine ⟨fun x hx=>List.mem_cons_of_mem _ (a x hx),fun x hx=>?_,by simp;omega⟩
     rcases List.mem_cons.1 hx with rfl|hx
     ·simp
     ·exact List.mem_cons_of_mem _ (b x hx)
theorem alike_type {ty w:Int}{v:V}(hw:w≠0)(h:alike ty w=true)(hv:ofType ty v):ofType w v:=by
 rcases hv with h0|h0
 ·exact .inl h0
 ·unfold alike at h
  simp at h
  rcases h with (e|e)|e
  ·exact .inr (by rw [h0,e])
  ·exact .inl (by rw [h0,e])
  ·exact absurd e hw
def SetsOk (t:Tab)(ks:List Nat)(ts:List T):Prop:=ks.length=ts.length/\∀ (j k:Nat)(x:T),ks[j]?=some k->ts[j]?=some x->k<t.cols.length/\tcAs (scope t.name t) x ((t.cols.getD k ([],0)).2)=none
theorem colIdx_lt {t:Tab}{name:List UInt8}{k:Nat}(h:colIdx t name=some k):k<t.cols.length:=by
 unfold colIdx at h
 rw [List.findIdx?_eq_some_iff_findIdx_eq] at h
 exact h.1
theorem setsGo_ok {t:Tab}:∀ {its:List It}{acc ks:List Nat},setsGo t acc its=.ok ks->∃ m,ks=acc++m/\SetsOk t m (its.map (·.tree))
 | [],acc,ks,h=>by simp [setsGo] at h;subst h;exact ⟨[],by simp,rfl,fun j k x hj=>by simp at hj⟩
 | it :: its,acc,ks,h=>by
  unfold setsGo at h
  cases hc:colIdx t it.name with
  | none=>rw [hc] at h;cases h
  | some k =>
   rw [hc] at h
   simp only at h
   split at h
   ·cases h
   ·cases ha:tcAs (scope t.name t) it.tree ((t.cols.getD k ([],0)).2) with
    | some e=>rw [ha] at h;cases h
    | none =>
     rw [ha] at h
     obtain ⟨m,rfl,hm⟩:=setsGo_ok h
     refine ⟨k :: m,by simp,by simp [hm.1],fun j k' x hj hx=>?_⟩
     cases j with
     | zero=>simp at hj hx;subst hj;subst hx;exact ⟨colIdx_lt hc,ha⟩
     | succ j=>simp at hj hx;exact hm.2 j k' x hj (by simpa using hx)
theorem getD_set (l:List V)(k i:Nat)(v:V):(l.set k v).getD i nul=if k=i/\i<l.length then v else l.getD i nul:=by
 simp only [List.getD,List.getElem?_set]
 by_cases h:k=i
 ·subst h
  by_cases hl:k<l.length
  ·simp [hl]
  ·simp [hl]
 ·simp [h]
theorem setRow_ok {t:Tab}(ht:okTab t){row:List V}(hr:RowFor (scope t.name t) row):∀ {ks:List Nat}{ts:List T}{out r':List V},(∀ x ∈ ts,okT x)->SetsOk t ks ts->RowFor (scope t.name t) out->setRow (scope t.name t) row out ks ts=.ok r'->RowFor (scope t.name t) r'
 | [],ts,out,r',_,hs,ho,h=>by
  cases ts with
  | nil=>simp [setRow] at h;subst h;exact ho
  | cons x ts=>simp [SetsOk] at hs
 | k :: ks,[],out,r',_,hs,ho,h=>by simp [SetsOk] at hs
 | k :: ks,x :: ts,out,r',hx,hs,ho,h=>by
  unfold setRow at h
  cases he:ev (scope t.name t) row x with
  | error e=>rw [he] at h;cases h
  | ok v =>
   rw [he] at h
   obtain ⟨hk,hty⟩:=hs.2 0 k x rfl rfl
   refine setRow_ok ht hr (fun y hy=>hx y (by simp [hy])) ⟨by simpa using hs.1,fun j k' y hj hy=>hs.2 (j+1) k' y (by simpa using hj) (by simpa using hy)⟩ ?_ h
   refine ⟨by rw [List.length_set];exact ho.1,fun u hu=>?_,fun i=>?_⟩
   ·rcases List.mem_or_eq_of_mem_set hu with hu|rfl
    ·exact ho.2.1 u hu
    ·exact ev_ok _ hr.2.1 (hx x (by simp)).2.1 he
   ·rw [getD_set]
    split
    ·rename_i hi
     obtain ⟨rfl,_⟩:=hi
     obtain ⟨ty,h1,h2⟩:=tcAs_ok hty
     rw [typeAt_col]
     refine alike_type ?_ h2 (ev_type hr.2.1 hr.2.2 (hx x (by simp)).1 (hx x (by simp)).2.1 h1 he)
     have hm:t.cols.getD k ([],0) ∈ t.cols:=by
      rw [List.getD_eq_getElem?_getD,List.getElem?_eq_getElem hk];exact List.getElem_mem hk
     have:=(ht.cols _ hm).1
     omega
    ·exact ho.2.2 i
theorem updGo_ok {t:Tab}(ht:okTab t){c:T}{ks:List Nat}{ts:List T}(hx:∀ x ∈ ts,okT x)(hs:SetsOk t ks ts):∀ {rows:List (List V)}{z:List (List V) × Nat},(∀ r ∈ rows,RowFor (scope t.name t) r)->updGo (scope t.name t) c ks ts rows=.ok z->(∀ r ∈ z.1,RowFor (scope t.name t) r)/\z.1.length=rows.length/\z.2<=rows.length
 | [],z,_,h=>by simp [updGo] at h;subst h;simp
 | r :: rs,z,hr,h=>by
  unfold updGo at h
  cases he:ev (scope t.name t) r c with
  | error e=>rw [he] at h;cases h
  | ok v =>
   rw [he] at h
   simp only at h
   split at h
   ·cases h1:setRow (scope t.name t) r r ks ts with
    | error e=>rw [h1] at h;cases h
    | ok r' =>
     rw [h1] at h
     simp only at h
     cases h2:updGo (scope t.name t) c ks ts rs with
     | error e=>rw [h2] at h;cases h
     | ok y =>
      rw [h2] at h
      simp at h;subst h
      obtain ⟨a,b,d⟩:=updGo_ok ht hx hs (fun r h=>hr r (by simp [h])) h2
      refine ⟨fun q hq=>?_,by simp [b],by simp;omega⟩
      rcases List.mem_cons.1 hq with rfl|hq
      ·exact setRow_ok ht (hr r (by simp)) hx hs (hr r (by simp)) h1
      ·exact a q hq
   ·cases h2:updGo (scope t.name t) c ks ts rs with
    | error e=>rw [h2] at h;cases h
    | ok y =>
     rw [h2] at h
     simp at h;subst h
     obtain ⟨a,b,d⟩:=updGo_ok ht hx hs (fun r h=>hr r (by simp [h])) h2
     refine ⟨fun q hq=>?_,by simp [b],by simp;omega⟩
     rcases List.mem_cons.1 hq with rfl|hq
     ·exact hr q (by simp)
     ·exact a q hq
theorem doSelect_db (db:DB)(s:St):(doSelect db s).1=db:=by
 unfold doSelect
 repeat' split
 all_goals rfl
theorem doSt_ok {db:DB}{s:St}(hs:okSt s)(h:okDB db):okDB (doSt db s).1:=by
 unfold doSt
 split
 ·rename_i hk
  unfold doCreate
  split
  ·exact h
  split
  ·exact h
  ·rename_i h6
   refine ⟨by have:=h.1;simp;omega,fun t ht=>?_⟩
   rcases List.mem_append.1 ht with ht|ht
   ·exact h.2 t ht
   ·simp at ht;subst ht
    obtain ⟨h5,hi⟩:=hs.create hk
    refine ⟨by simpa using h5,?_,fun c hc=>?_,hs.tname,by simp,by simp⟩
    ·have:=hs.some_ (.inr hk)
     cases hit:s.items with
     | nil=>exact absurd hit this
     | cons a l=>simp
    ·simp at hc
     obtain ⟨i,hi',rfl⟩:=hc
     exact hi i hi'
 rename_i hk99
 split
 ·unfold doInsert
  cases ht:tabAt db s.table with
  | none=>exact h
  | some i =>
   have hi:=tabAt_lt ht
   have htab:=h.2 _ (tabD_mem hi)
   simp only
   split
   ·exact h
   ·rename_i hlen
    simp only [ne_eq,Decidable.not_not] at hlen
    split
    ·exact h
    ·rename_i htc
     split
     ·exact h
     ·rename_i row hev
      split
      ·exact h
      ·rename_i h25
       have htr:∀ t ∈ s.items.map (·.tree),okT t:=by
        intro t ht
        simp at ht
        obtain ⟨j,hj,rfl⟩:=ht
        exact hs.items hk99 j hj
       refine h.set hi (by have:=htab.nrows;simp;omega) (fun r hr=>?_)
       rcases List.mem_append.1 hr with hr|hr
       ·exact htab.rows r hr
       ·simp at hr;subst hr
        obtain ⟨a,b⟩:=evAll_ok RowFor.nil htr hev
        refine ⟨by rw [a,scope_len];simpa using hlen,b,fun j=>?_⟩
        rw [typeAt_col]
        exact row_fits htr (fun c hc=>by have:=(htab.cols c hc).1;omega) (by simpa using hlen) htc hev j
 split
 ·unfold doDelete
  cases ht:tabAt db s.table with
  | none=>exact h
  | some i =>
   have hi:=tabAt_lt ht
   have htab:=h.2 _ (tabD_mem hi)
   simp only
   split
   ·exact h
   ·split
    ·exact h
    ·rename_i z hz
     obtain ⟨a,b,c⟩:=sift_ok hz
     exact h.set hi (by have:=htab.nrows;simp;omega) (fun r hr=>htab.rows r (b r hr))
 split
 ·unfold doUpdate
  cases ht:tabAt db s.table with
  | none=>exact h
  | some i =>
   have hi:=tabAt_lt ht
   have htab:=h.2 _ (tabD_mem hi)
   simp only
   split
   ·exact h
   ·rename_i ks hks
    obtain ⟨m,hm,hsets⟩:=setsGo_ok hks
    simp at hm;subst hm
    split
    ·exact h
    ·split
     ·exact h
     ·rename_i z hz
      have htr:∀ t ∈ s.items.map (·.tree),okT t:=by
       intro t ht
       simp at ht
       obtain ⟨j,hj,rfl⟩:=ht
       exact hs.items hk99 j hj
      obtain ⟨a,b,c⟩:=updGo_ok htab htr hsets (fun r hr=>(htab.rows r hr).src) hz
      exact h.set hi (by have:=htab.nrows;simp;omega) (fun r hr=>(a r hr).unsrc)
 ·rw [doSelect_db];exact h
end Pl
namespace Pl
open Go.Deep
set_option linter.unusedVariables false
set_option linter.unusedSimpArgs false
theorem worth_app:∀ (a b:List UInt8)(m:Int),worth m (a++b)=worth (worth m a) b
 | [],_,_=>rfl
 | c :: a,b,m=>worth_app a b _
theorem ofNat_toNat {k:Nat}(h:k<10):(UInt8.ofNat (48+k)).toNat=48+k:=by
 rw [UInt8.toNat_ofNat'];omega
theorem dig_of {k:Nat}(h:k<10):isDig (UInt8.ofNat (48+k))=true:=by
 rw [isDig_iff,ofNat_toNat h];omega
theorem decGo_app:∀ (f n:Nat)(acc:List UInt8),1<=f->n<10 ^ f->∃ ds,decGo f n acc=ds++acc/\ds≠[]/\(∀ c ∈ ds,isDig c=true)/\worth 0 ds=n/\ds.length<=f
 | 0,n,acc,hf,h=>by omega
 | f+1,n,acc,_,h=>by
  unfold decGo
  split
  ·rename_i h10
   refine ⟨[UInt8.ofNat (48+n)],rfl,by simp,?_,?_,by simp⟩
   ·intro c hc;rw [List.mem_singleton] at hc;subst hc;exact dig_of h10
   ·show (10*0+(((UInt8.ofNat (48+n)).toNat:Int) - 48))=n
    rw [ofNat_toNat h10];omega
  ·have hm:n % 10<10:=Nat.mod_lt _ (by decide)
   have hf:1<=f:=by
    cases f with
    | zero=>simp at h;omega
    | succ f=>omega
   obtain ⟨ds,h1,h2,h3,h4,h5⟩:=decGo_app f (n / 10) (UInt8.ofNat (48+n % 10) :: acc) hf (by rw [Nat.pow_succ] at h;exact Nat.div_lt_of_lt_mul (by rw [Nat.mul_comm];exact h))
   refine ⟨ds++[UInt8.ofNat (48+n % 10)],by rw [h1];simp,by simp,?_,?_,by simp;omega⟩
   ·intro c hc
    rcases List.mem_append.1 hc with hc|hc
    ·exact h3 c hc
    ·rw [List.mem_singleton] at hc;subst hc;exact dig_of hm
   ·rw [worth_app,h4]
    show (10*((n / 10:Nat):Int)+(((UInt8.ofNat (48+n % 10)).toNat:Int) - 48))=n
    rw [ofNat_toNat hm];omega
theorem dec_ok {n:Nat}(h:n<10 ^ 20):dec n≠[]/\(∀ c ∈ dec n,isDig c=true)/\worth 0 (dec n)=n/\(dec n).length<=20:=by
 obtain ⟨ds,h1,h2,h3,h4,h5⟩:=decGo_app 20 n [] (by decide) h
 have:dec n=ds:=by unfold dec;rw [h1];simp
 rw [this]
 exact ⟨h2,h3,h4,h5⟩
abbrev in64 (n:Int):Prop:=-9223372036854775808<=n/\n<=9223372036854775807
end Pl
namespace Pl
open Go.Deep
def joinsAll (db:DB):List Col->List (List V)->List Nat->List It->Out (List (List V))
 | cols,rows,i :: is,it :: its=>match joinRows (cols++scope it.other (tabD db i)) (cond it.tree) it.mark (tabD db i).cols.length (tabD db i).rows rows with
  | .error e=>.error e
  | .ok z=>joinsAll db (cols++scope it.other (tabD db i)) z is its
 | _,rows,_,_=>.ok rows
def onsAll (db:DB):List Col->List Nat->List It->Option Nat
 | cols,i :: is,it :: its=>match tcAs (cols++scope it.other (tabD db i)) (cond it.tree) 3 with
  | some e=>some e
  | none=>onsAll db (cols++scope it.other (tabD db i)) is its
 | _,_,_=>none
def choose (db:DB)(s:St):Out (List (List V)):=match srcsGo db [] s.sources with
 | .error e=>.error e
 | .ok is=>match onsAll db [] is s.sources with
  | some e=>.error e
  | none=>match tcAll (scopes db is s.sources) (valuesOf s (scopes db is s.sources)) with
   | some e=>.error e
   | none=>match tcAs (scopes db is s.sources) (cond s.whr) 3 with
    | some e=>.error e
    | none=>match tcAll (scopes db is s.sources) (s.keys.map (·.tree)) with
     | some e=>.error e
     | none=>match joinsAll db [] [[]] is s.sources with
      | .error e=>.error e
      | .ok rows=>chosen (scopes db is s.sources) s rows
end Pl
namespace Pl
end Pl
end Go.Proofs.YtojdpjpldokjmaaGreatDoor
namespace Go.Proofs.YtojdpjpldokjmaaGreatDoor.Pl
end Go.Proofs.YtojdpjpldokjmaaGreatDoor.Pl
namespace Go.Proofs.YtojdpjpldokjmaaGreatDoor
namespace Pl
open Go.Deep
end Pl
namespace Pl
open Go.Deep
set_option linter.unusedVariables false
def Shp:T->Prop
 | .nil=>True
 | .node _ _ p l r=>(p.op<=5->r=.nil)/\Shp l/\Shp r
def ShG (p:P):Prop:=∀ ts x r,p ts=some (x,r)->Shp x
theorem shp_two {o:Nat}{x y:T}(h6:6<=o)(hx:Shp x)(hy:Shp y):Shp (tTwo o x y):=⟨fun h=>absurd (show o<=5 from h) (by omega),hx,hy⟩
theorem shp_one {o:Nat}{x:T}(hx:Shp x):Shp (tOne o x):=⟨fun _=>rfl,hx,trivial⟩
theorem shp_lit (kind n:Int)(s:List UInt8):Shp (tLit kind n s):=⟨fun _=>rfl,trivial,trivial⟩
theorem shp_name (a b:List UInt8):Shp (tName a b):=⟨fun _=>rfl,trivial,trivial⟩
theorem chain_shp {part:P}{op:Nat->Option Nat}(hp:ShG part)(hop:∀ k o,op k=some o->6<=o/\o<=18):∀ (f:Nat)(x:T)(ts:List Tok)(y:T)(r:List Tok),Shp x->chain part op f x ts=some (y,r)->Shp y
 | 0,_,_,_,_,_,h=>by simp [chain] at h
 | f+1,x,ts,y,r,hx,h=>by
  unfold chain at h
  split at h
  ·simp at h;obtain ⟨rfl,rfl⟩:=h;exact hx
  ·rename_i o ho
   split at h
   ·cases h
   ·rename_i z r' hz
    exact chain_shp hp hop f _ _ _ _ (shp_two (hop _ _ ho).1 hx (hp _ _ _ hz)) h
theorem chained_shp {part:P}{op:Nat->Option Nat}(hp:ShG part)(hop:∀ k o,op k=some o->6<=o/\o<=18):ShG (chained part op):=by
 intro ts x r h
 unfold chained at h
 split at h
 ·cases h
 ·rename_i y r' hy
  exact chain_shp hp hop _ _ _ _ _ (hp _ _ _ hy) h
theorem single_shp {val:P}(hv:ShG val):ShG (pSingle val):=by
 intro ts x r h
 unfold pSingle at h
 split at h
 ·split at h
  ·cases h
  ·rename_i y r1 hz
   split at h
   ·simp at h;obtain ⟨rfl,rfl⟩:=h
    exact hv _ _ _ hz
   ·cases h
 ·repeat' (split at h)
  all_goals first
   | (cases h;done)
   | (simp at h;obtain ⟨rfl,rfl⟩:=h;first|exact shp_lit _ _ _|exact shp_name _ _)
theorem signed_shp {sgn single:P}(h1:ShG sgn)(h2:ShG single):ShG (pSigned sgn single):=by
 intro ts x r h
 unfold pSigned at h
 split at h
 ·split at h
  ·cases h
  ·rename_i z r' hz
   simp at h;obtain ⟨rfl,rfl⟩:=h
   exact shp_one (h1 _ _ _ hz)
 ·exact h2 _ _ _ h
theorem is_shp {x:T}{ts:List Tok}{y:T}{r:List Tok}(hx:Shp x)(h:pIs x ts=some (y,r)):Shp y:=by
 unfold pIs at h
 repeat' (split at h)
 all_goals first
  | (cases h;done)
  | (simp at h;obtain ⟨rfl,rfl⟩:=h;exact shp_one hx)
theorem comp_shp {sum:P}(hs:ShG sum):ShG (pComp sum):=by
 intro ts x r h
 unfold pComp at h
 split at h
 ·cases h
 ·rename_i y r1 hy
  have a1:=hs _ _ _ hy
  split at h
  ·rename_i o ho
   split at h
   ·cases h
   ·rename_i z r2 hz
    simp at h;obtain ⟨rfl,rfl⟩:=h
    exact shp_two (cmpOp_le ho).1 a1 (hs _ _ _ hz)
  ·split at h
   ·exact is_shp a1 h
   ·simp at h;obtain ⟨rfl,rfl⟩:=h;exact a1
theorem no_shp {no comp:P}(h1:ShG no)(h2:ShG comp):ShG (pNo no comp):=by
 intro ts x r h
 unfold pNo at h
 split at h
 ·split at h
  ·cases h
  ·rename_i z r' hz
   simp at h;obtain ⟨rfl,rfl⟩:=h
   exact shp_one (h1 _ _ _ hz)
 ·exact h2 _ _ _ h
theorem lv_shp:∀ k,ShG (lv k).value/\ShG (lv k).no'/\ShG (lv k).signed:=by
 have up:∀ v:Lv,ShG v.val->ShG v.no->ShG v.sgn->ShG v.value/\ShG v.no'/\ShG v.signed:=by
  intro v a b c
  have d:=single_shp a
  have e:ShG v.signed:=signed_shp c d
  have f:ShG v.prod:=chained_shp e prodOp_le
  have g:ShG v.sum:=chained_shp f sumOp_le
  have i:ShG v.comp:=comp_shp g
  have j:ShG v.no':=no_shp b i
  have l:ShG v.both:=chained_shp j andOp_le
  have m:ShG v.value:=chained_shp l orOp_le
  exact ⟨m,j,e⟩
 intro k
 induction k with
 | zero=>exact up _ (by intro _ _ _ h;cases h) (by intro _ _ _ h;cases h) (by intro _ _ _ h;cases h)
 | succ k ih=>exact up _ ih.1 ih.2.1 ih.2.2
theorem val_shp:ShG (pVal 20):=(lv_shp 20).1
end Pl
namespace Pl
open Go.Deep
def five:List UInt8:=[102,105,118,101]
theorem quote_len:∀ s:List UInt8,(quote s).length<=2*s.length
 | []=>by simp [quote]
 | c :: s=>by
  have:=quote_len s
  unfold quote
  split <;> simp <;> omega
end Pl
namespace Pl
open Go.Deep
end Pl
namespace Pl
end Pl
end Go.Proofs.YtojdpjpldokjmaaGreatDoor
