/- What values come to, their types, their programs: plainly. Nothing of the program in it. -/
import Derived.Test.YtojdpjpldokjmaaGreatDoorO03
import Derived.Lib.Small
import Derived.Lib.Bytealg
set_option maxHeartbeats 60000000
set_option maxRecDepth 100000
namespace Go.Proofs.YtojdpjpldokjmaaGreatDoor
namespace Pl
open Go.Deep
structure V where
 kind:Int
 n:Int
 s:List UInt8
def V.same (a b:V):Bool := a.kind == b.kind && (a.n == b.n && a.s == b.s)
theorem V.same_iff (a b:V):V.same a b = true ↔ a = b := by
 obtain ⟨k,n,s⟩ := a
 obtain ⟨k',n',s'⟩ := b
 simp [V.same]
theorem V.same_yes {a b:V} (h:a = b):V.same a b = true := (V.same_iff a b).2 h
theorem V.same_no {a b:V} (h:¬ a = b):V.same a b = false := by
 cases hs:V.same a b with
 | false=>rfl
 | true=>exact absurd ((V.same_iff a b).1 hs) h
def decV (a b:V):Decidable (a = b) := if h:V.same a b = true then .isTrue ((V.same_iff a b).1 h) else .isFalse (fun e=>h (V.same_yes e))
def nul:V := ⟨0,0,[]⟩
def tru (b:Bool):V := ⟨3,if b = true then 1 else 0,[]⟩
def V.miss (v:V):Bool := v.kind == 0
abbrev Out (α:Type) := Except Nat α
def ranged (n:Int):Out V := if -9223372036854775808 <= n /\ n <= 9223372036854775807 then .ok ⟨1,n,[]⟩ else .error 4
def reckon (op:Nat) (a b:Int):Out V :=
 if op = 6 then ranged (a + b) else if op = 7 then ranged (a - b) else if op = 8 then ranged (a * b)
 else if b = 0 then .error 5 else if op = 10 then .ok ⟨1,Int.tmod a b,[]⟩ else ranged (Int.tdiv a b)
def order (a b:V):Int := if (a.miss || b.miss) = true then Lib.compareInt a.kind b.kind else if a.kind = 2 then Lib.compareBytes a.s b.s else Lib.compareInt a.n b.n
def holds (op:Nat) (o:Int):Bool :=
 if op = 11 then o == 0 else if op = 12 then o != 0 else if op = 13 then decide (o < 0) else if op = 14 then decide (o <= 0) else if op = 15 then decide (0 < o) else decide (0 <= o)
def opp (v:V):V := if v.miss = true then v else tru (v.n == 0)
def neg (v:V):Out V := if v.miss = true then .ok v else ranged (-v.n)
def joined (l r tell:V):V := @ite _ (r = tell \/ r.miss = true) (@instDecidableOr _ _ (decV r tell) _) r l
def ap1 (op:Nat) (v:V):Out V := if op = 2 then neg v else if op = 3 then .ok (opp v) else .ok (tru (v.miss == (op == 4)))
def ap2 (op:Nat) (l r:V):Out V :=
 if op = 17 \/ op = 18 then .ok (joined l r (tru (op == 18))) else if (l.miss || r.miss) = true then .ok nul
 else if op <= 10 then reckon op l.n r.n else .ok (tru (holds op (order l r)))
structure Col where
 src:List UInt8
 name:List UInt8
 type:Int
def Col.is (src name:List UInt8) (c:Col):Bool := c.name == name && (src == [] || c.src == src)
def colGo (src name:List UInt8):List Col -> Nat -> Option Nat -> Option Nat
 | [],_,f=>f
 | c :: cs,i,f=>if c.is src name = true then (match f with
     | some _=>none
     | none=>colGo src name cs (i + 1) (some i)) else colGo src name cs (i + 1) f
def colAt (cols:List Col) (src name:List UInt8):Option Nat := colGo src name cols 0 none
def typeAt (cols:List Col) (i:Nat):Int := match cols[i]? with
 | some c=>c.type
 | none=>0
def alike (a b:Int):Bool := a == b || a == 0 || b == 0
def takes (op:Nat):Int := if op = 3 \/ op = 17 \/ op = 18 then 3 else if op = 4 \/ op = 5 \/ (11 <= op /\ op <= 16) then 0 else 1
def gives (op:Nat):Int := if op = 2 \/ (6 <= op /\ op <= 10) then 1 else 3
def fit (op:Nat) (a b:Int):Out Int := if (alike a (takes op) && alike b (takes op) && alike a b) = true then .ok (gives op) else .error 3
def tc (cols:List Col):T -> Out Int
 | .nil=>.ok 0
 | .node _ _ p l r =>
   if p.op = 0 then .ok p.kind
   else if p.op = 1 then (match colAt cols p.src p.name with
     | some i=>.ok (typeAt cols i)
     | none=>.error 2)
   else match tc cols l with
     | .error e=>.error e
     | .ok a=>if p.op <= 5 then fit p.op a a else match tc cols r with
       | .error e=>.error e
       | .ok b=>fit p.op a b
def litOf (p:Pay):V := ⟨p.kind,p.n,p.s⟩
def idx (cols:List Col) (p:Pay):Nat := (colAt cols p.src p.name).getD 0
def ev (cols:List Col) (row:List V):T -> Out V
 | .nil=>.ok nul
 | .node _ _ p l r =>
   if p.op = 0 then .ok (litOf p)
   else if p.op = 1 then .ok (row.getD (idx cols p) nul)
   else match ev cols row l with
     | .error e=>.error e
     | .ok a=>if p.op <= 5 then ap1 p.op a
       else @ite _ (17 <= p.op /\ a = tru (p.op == 18)) (@instDecidableAnd _ _ _ (decV a (tru (p.op == 18)))) (.ok a) (match ev cols row r with
         | .error e=>.error e
         | .ok b=>ap2 p.op a b)
structure Ins where
 kind:Nat
 v:V
 place:Nat
def gen (cols:List Col):Nat -> T -> List Ins
 | _,.nil=>[]
 | b,.node _ _ p l r =>
   if p.op = 0 then [⟨0,litOf p,0⟩]
   else if p.op = 1 then [⟨1,nul,idx cols p⟩]
   else if p.op <= 5 then gen cols b l ++ [⟨p.op + 2,nul,0⟩]
   else if p.op <= 16 then gen cols b l ++ (gen cols (b + (gen cols b l).length) r ++ [⟨p.op + 2,nul,0⟩])
   else gen cols b l ++ (⟨p.op - 15,nul,b + (gen cols b l).length + 1 + (gen cols (b + (gen cols b l).length + 1) r).length + 1⟩ :: (gen cols (b + (gen cols b l).length + 1) r ++ [⟨p.op + 2,nul,0⟩]))
def Wf:T -> Prop
 | .nil=>False
 | .node _ _ p l r=>p.op <= 18 /\ (p.op <= 1 \/ (p.op <= 5 /\ Wf l) \/ (Wf l /\ Wf r)) /\ (6 <= p.op -> Wf r) /\ (2 <= p.op -> Wf l)
def mrun (code:List Ins) (row:List V):Nat -> Nat -> List V -> Option (Out V)
 | 0,_,_=>none
 | f + 1,i,st=>match code[i]? with
   | none=>(match st with
     | v :: _=>some (.ok v)
     | []=>none)
   | some c =>
     if c.kind = 0 then mrun code row f (i + 1) (c.v :: st)
     else if c.kind = 1 then (if c.place < row.length then mrun code row f (i + 1) (row.getD c.place nul :: st) else none)
     else match st with
       | []=>none
       | v :: st1 =>
         if c.kind = 2 \/ c.kind = 3 then (@ite _ (v = tru (c.kind == 3)) (decV v (tru (c.kind == 3))) (mrun code row f c.place st) (mrun code row f (i + 1) st))
         else if c.kind <= 7 then (match ap1 (c.kind - 2) v with
           | .error e=>some (.error e)
           | .ok u=>mrun code row f (i + 1) (u :: st1))
         else match st1 with
           | []=>none
           | u :: st2=>match ap2 (c.kind - 2) u v with
             | .error e=>some (.error e)
             | .ok x=>mrun code row f (i + 1) (x :: st2)
theorem mrun_more {code:List Ins} {row:List V}:∀ {f:Nat} {i:Nat} {st:List V} {x:Out V},mrun code row f i st = some x -> mrun code row (f + 1) i st = some x
 | 0,_,_,_,h=>by simp [mrun] at h
 | f + 1,i,st,x,h=>by
   unfold mrun at h ⊢
   split at h
   · exact h
   · rename_i c hc
     split at h
     · rw [if_pos ‹_›]; exact mrun_more h
     · rw [if_neg ‹_›]
       split at h
       · rw [if_pos ‹_›]
         split at h
         · rw [if_pos ‹_›]; exact mrun_more h
         · cases h
       · rw [if_neg ‹_›]
         cases st with
         | nil=>simp at h
         | cons v st1 =>
           simp only at h ⊢
           split at h
           · rw [if_pos ‹_›]
             split at h
             · rw [if_pos ‹_›]; exact mrun_more h
             · rw [if_neg ‹_›]; exact mrun_more h
           · rw [if_neg ‹_›]
             split at h
             · rw [if_pos ‹_›]
               cases ha:ap1 (c.kind - 2) v with
               | error e=>rw [ha] at h; exact h
               | ok u=>rw [ha] at h; exact mrun_more h
             · rw [if_neg ‹_›]
               cases st1 with
               | nil=>simp at h
               | cons u st2 =>
                 simp only at h ⊢
                 cases ha:ap2 (c.kind - 2) u v with
                 | error e=>rw [ha] at h; exact h
                 | ok y=>rw [ha] at h; exact mrun_more h
theorem mrun_add {code:List Ins} {row:List V} {f i:Nat} {st:List V} {x:Out V} (k:Nat) (h:mrun code row f i st = some x):mrun code row (f + k) i st = some x := by
 induction k with
 | zero=>exact h
 | succ k ih=>exact mrun_more ih
theorem mrun_le {code:List Ins} {row:List V} {f g i:Nat} {st:List V} {x:Out V} (hg:f <= g) (h:mrun code row f i st = some x):mrun code row g i st = some x := by
 obtain ⟨k,rfl⟩ := Nat.exists_eq_add_of_le hg; exact mrun_add k h
theorem at_mid {code pre xs post:List Ins} (h:code = pre ++ (xs ++ post)) (j:Nat) (hj:j < xs.length):code[pre.length + j]? = xs[j]? := by
 rw [h,List.getElem?_append_right (by omega),List.getElem?_append_left (by omega)]
 congr 1; omega
theorem step_lit {code:List Ins} {row:List V} {f i:Nat} {st:List V} {c:Ins} (hc:code[i]? = some c) (hk:c.kind = 0):mrun code row (f + 1) i st = mrun code row f (i + 1) (c.v :: st) := by
 rw [mrun.eq_def]; simp only; rw [hc]; simp only; rw [if_pos hk]
theorem step_col {code:List Ins} {row:List V} {f i:Nat} {st:List V} {c:Ins} (hc:code[i]? = some c) (hk:c.kind = 1) (hp:c.place < row.length):mrun code row (f + 1) i st = mrun code row f (i + 1) (row.getD c.place nul :: st) := by
 rw [mrun.eq_def]; simp only; rw [hc]; simp only; rw [if_neg (by omega),if_pos hk,if_pos hp]
theorem step_jump {code:List Ins} {row:List V} {f i:Nat} {v:V} {st:List V} {c:Ins} (hc:code[i]? = some c) (hk:c.kind = 2 \/ c.kind = 3):mrun code row (f + 1) i (v :: st) = @ite _ (v = tru (c.kind == 3)) (decV v (tru (c.kind == 3))) (mrun code row f c.place (v :: st)) (mrun code row f (i + 1) (v :: st)) := by
 rw [mrun,hc]; simp only; rw [if_neg (by omega),if_neg (by omega),if_pos hk]
theorem step_one {code:List Ins} {row:List V} {f i:Nat} {v:V} {st:List V} {c:Ins} (hc:code[i]? = some c) (h4:4 <= c.kind) (h7:c.kind <= 7):mrun code row (f + 1) i (v :: st) = match ap1 (c.kind - 2) v with
   | .error e=>some (.error e)
   | .ok u=>mrun code row f (i + 1) (u :: st) := by
 rw [mrun,hc]; simp only; rw [if_neg (by omega),if_neg (by omega),if_neg (by omega),if_pos h7]
theorem step_two {code:List Ins} {row:List V} {f i:Nat} {u v:V} {st:List V} {c:Ins} (hc:code[i]? = some c) (h8:8 <= c.kind):mrun code row (f + 1) i (v :: u :: st) = match ap2 (c.kind - 2) u v with
   | .error e=>some (.error e)
   | .ok x=>mrun code row f (i + 1) (x :: st) := by
 rw [mrun,hc]; simp only; rw [if_neg (by omega),if_neg (by omega),if_neg (by omega),if_neg (by omega)]
theorem gen_run (cols:List Col) (code:List Ins) (row:List V):∀ (t:T) (pre post:List Ins) (f:Nat) (st:List V),Wf t -> (∃ ty,tc cols t = .ok ty) -> (cols.length <= row.length) -> code = pre ++ (gen cols pre.length t ++ post) ->
   (∀ v,ev cols row t = .ok v -> ∀ x,mrun code row f (pre.length + (gen cols pre.length t).length) (v :: st) = some x -> mrun code row (f + (gen cols pre.length t).length) pre.length st = some x) /\
   (∀ e,ev cols row t = .error e -> mrun code row (f + (gen cols pre.length t).length) pre.length st = some (.error e))
 | .nil,_,_,_,_,h,_,_,_=>absurd h id
 | .node a1 a2 p l r,pre,post,f,st,hw,htc,hrow,hcode=>by
   obtain ⟨hop,_,hwr,hwl⟩ := hw
   by_cases h0:p.op = 0
   · have hg:gen cols pre.length (.node a1 a2 p l r) = [⟨0,litOf p,0⟩] := by rw [gen,if_pos h0]
     have he:ev cols row (.node a1 a2 p l r) = .ok (litOf p) := by rw [ev,if_pos h0]
     rw [hg] at hcode ⊢
     have hc := at_mid hcode 0 (by simp)
     simp only [List.length_singleton,Nat.add_zero,List.getElem?_cons_zero] at hc ⊢
     rw [he]
     refine ⟨fun v hv x hx=>?_,fun e h=>by cases h⟩
     cases hv
     rw [step_lit hc rfl]; exact hx
   by_cases h1:p.op = 1
   · have hg:gen cols pre.length (.node a1 a2 p l r) = [⟨1,nul,idx cols p⟩] := by rw [gen,if_neg h0,if_pos h1]
     have he:ev cols row (.node a1 a2 p l r) = .ok (row.getD (idx cols p) nul) := by rw [ev,if_neg h0,if_pos h1]
     have hi:idx cols p < row.length := by
       obtain ⟨ty,ht⟩ := htc
       rw [tc,if_neg h0,if_pos h1] at ht
       have hlt:∀ (cs:List Col) (i:Nat) (g:Option Nat) (j:Nat),(∀ j,g = some j -> j < i) -> colGo p.src p.name cs i g = some j -> j < i + cs.length := by
         intro cs
         induction cs with
         | nil=>intro i g j hg h; exact hg j h
         | cons c cs ih =>
           intro i g j hg h
           unfold colGo at h
           split at h
           · split at h
             · cases h
             · have := ih (i + 1) (some i) j (fun j hj=>by cases hj; omega) h; simp; omega
           · have := ih (i + 1) g j (fun j hj=>by have := hg j hj; omega) h; simp; omega
       unfold idx
       cases hcol:colAt cols p.src p.name with
       | none=>rw [hcol] at ht; cases ht
       | some i =>
         have := hlt cols 0 none i (fun j hj=>by cases hj) hcol
         simp; omega
     rw [hg] at hcode ⊢
     have hc := at_mid hcode 0 (by simp)
     simp only [List.length_singleton,Nat.add_zero,List.getElem?_cons_zero] at hc ⊢
     rw [he]
     refine ⟨fun v hv x hx=>?_,fun e h=>by cases h⟩
     cases hv
     rw [step_col hc rfl hi]; exact hx
   have htl:∃ ty,tc cols l = .ok ty := by
     obtain ⟨ty,ht⟩ := htc
     rw [tc,if_neg h0,if_neg h1] at ht
     cases hl:tc cols l with
     | error e=>rw [hl] at ht; cases ht
     | ok a=>exact ⟨a,rfl⟩
   have htr:¬ p.op <= 5 -> ∃ ty,tc cols r = .ok ty := by
     intro h5
     obtain ⟨ty,ht⟩ := htc
     rw [tc,if_neg h0,if_neg h1] at ht
     cases hl:tc cols l with
     | error e=>rw [hl] at ht; cases ht
     | ok a =>
       rw [hl] at ht; simp only at ht; rw [if_neg h5] at ht
       cases hr:tc cols r with
       | error e=>rw [hr] at ht; cases ht
       | ok a=>exact ⟨a,rfl⟩
   have he:ev cols row (.node a1 a2 p l r) = match ev cols row l with
     | .error e=>.error e
     | .ok a=>if p.op <= 5 then ap1 p.op a
       else @ite _ (17 <= p.op /\ a = tru (p.op == 18)) (@instDecidableAnd _ _ _ (decV a (tru (p.op == 18)))) (.ok a) (match ev cols row r with
         | .error e=>.error e
         | .ok b=>ap2 p.op a b) := by rw [ev,if_neg h0,if_neg h1]
   rw [he]
   generalize hL:gen cols pre.length l = L at *
   by_cases h5:p.op <= 5
   · have hg:gen cols pre.length (.node a1 a2 p l r) = L ++ [⟨p.op + 2,nul,0⟩] := by rw [gen,if_neg h0,if_neg h1,if_pos h5,hL]
     rw [hg] at hcode ⊢
     have hc:code[pre.length + L.length]? = some ⟨p.op + 2,nul,0⟩ := by
       have := at_mid hcode L.length (by simp)
       rw [this]; simp
     have ih := fun f=>gen_run cols code row l pre ([⟨p.op + 2,nul,0⟩] ++ post) f st (hwl (by omega)) htl hrow (by rw [hL,hcode]; simp)
     rw [hL] at ih
     simp only [List.length_append,List.length_singleton]
     rw [show f + (L.length + 1) = (f + 1) + L.length from by omega]
     cases hl:ev cols row l with
     | error e =>
       refine ⟨fun v hv=>by simp at hv,fun e' h=>?_⟩
       simp at h; subst h
       exact (ih (f + 1)).2 e hl
     | ok a =>
       simp only
       rw [if_pos h5]
       have hs := step_one (f := f) (row := row) (v := a) (st := st) hc (show 4 <= p.op + 2 by omega) (show p.op + 2 <= 7 by omega)
       simp only [Nat.add_sub_cancel] at hs
       refine ⟨fun v hv x hx=>?_,fun e h=>?_⟩
       · refine (ih (f + 1)).1 a hl x ?_
         rw [hs,hv]; simp only
         rw [<- Nat.add_assoc] at hx; exact hx
       · refine (ih (f + 1)).1 a hl _ ?_
         rw [hs,h]
   have hrr := htr h5
   by_cases h16:p.op <= 16
   · generalize hR:gen cols (pre.length + L.length) r = R at *
     have hg:gen cols pre.length (.node a1 a2 p l r) = L ++ (R ++ [⟨p.op + 2,nul,0⟩]) := by rw [gen,if_neg h0,if_neg h1,if_neg h5,if_pos h16,hL,hR]
     rw [hg] at hcode ⊢
     have hc:code[pre.length + (L.length + R.length)]? = some ⟨p.op + 2,nul,0⟩ := by
       have := at_mid hcode (L.length + R.length) (by simp)
       rw [this,List.getElem?_append_right (by omega),List.getElem?_append_right (by omega)]; simp
     have ih1 := fun f=>gen_run cols code row l pre (R ++ [⟨p.op + 2,nul,0⟩] ++ post) f st (hwl (by omega)) htl hrow (by rw [hL,hcode]; simp)
     have ih2 := fun f st=>gen_run cols code row r (pre ++ L) ([⟨p.op + 2,nul,0⟩] ++ post) f st (hwr (by omega)) hrr hrow (by rw [List.length_append,hR,hcode]; simp)
     rw [hL] at ih1
     simp only [List.length_append,hR] at ih2
     simp only [List.length_append,List.length_singleton]
     rw [show f + (L.length + (R.length + 1)) = ((f + 1) + R.length) + L.length from by omega]
     cases hl:ev cols row l with
     | error e =>
       refine ⟨fun v hv=>by simp at hv,fun e' h=>?_⟩
       simp at h; subst h
       exact (ih1 _).2 e hl
     | ok a =>
       simp only
       rw [if_neg h5,if_neg (by omega)]
       cases hr:ev cols row r with
       | error e =>
         refine ⟨fun v hv=>by simp at hv,fun e' h=>?_⟩
         simp at h; subst h
         exact (ih1 _).1 a hl _ ((ih2 (f + 1) (a :: st)).2 e hr)
       | ok b =>
         simp only
         have hs := step_two (f := f) (row := row) (u := a) (v := b) (st := st) hc (show 8 <= p.op + 2 by omega)
         simp only [Nat.add_sub_cancel] at hs
         refine ⟨fun v hv x hx=>?_,fun e h=>?_⟩
         · refine (ih1 _).1 a hl x ((ih2 (f + 1) (a :: st)).1 b hr x ?_)
           rw [Nat.add_assoc,hs,hv]; simp only
           rw [show pre.length + (L.length + (R.length + 1)) = pre.length + (L.length + R.length) + 1 from by omega] at hx; exact hx
         · refine (ih1 _).1 a hl _ ((ih2 (f + 1) (a :: st)).1 b hr _ ?_)
           rw [Nat.add_assoc,hs,h]
   · generalize hR:gen cols (pre.length + L.length + 1) r = R at *
     have hg:gen cols pre.length (.node a1 a2 p l r) = L ++ (⟨p.op - 15,nul,pre.length + L.length + 1 + R.length + 1⟩ :: (R ++ [⟨p.op + 2,nul,0⟩])) := by rw [gen,if_neg h0,if_neg h1,if_neg h5,if_neg h16,hL,hR]
     rw [hg] at hcode ⊢
     have hj:code[pre.length + L.length]? = some ⟨p.op - 15,nul,pre.length + L.length + 1 + R.length + 1⟩ := by
       have := at_mid hcode L.length (by simp)
       rw [this,List.getElem?_append_right (by omega)]; simp
     have hc:code[pre.length + (L.length + 1 + R.length)]? = some ⟨p.op + 2,nul,0⟩ := by
       have := at_mid hcode (L.length + 1 + R.length) (by simp; omega)
       rw [this,List.getElem?_append_right (by omega),show L.length + 1 + R.length - L.length = R.length + 1 from by omega,List.getElem?_cons_succ,List.getElem?_append_right (by omega)]; simp
     have ih1 := fun f=>gen_run cols code row l pre ((⟨p.op - 15,nul,pre.length + L.length + 1 + R.length + 1⟩ :: (R ++ [⟨p.op + 2,nul,0⟩])) ++ post) f st (hwl (by omega)) htl hrow (by rw [hL,hcode]; simp)
     have ih2 := fun f st=>gen_run cols code row r (pre ++ L ++ [⟨p.op - 15,nul,pre.length + L.length + 1 + R.length + 1⟩]) ([⟨p.op + 2,nul,0⟩] ++ post) f st (hwr (by omega)) hrr hrow (by simp only [List.length_append,List.length_singleton,hR]; rw [hcode]; simp)
     rw [hL] at ih1
     simp only [List.length_append,List.length_singleton,hR] at ih2
     simp only [List.length_append,List.length_cons,List.length_nil]
     rw [show f + (L.length + (R.length + (0 + 1) + 1)) = (((f + 1) + R.length) + 1) + L.length from by omega]
     have ht18:(p.op - 15 == 3) = (p.op == 18) := by rw [Bool.eq_iff_iff]; simp; omega
     have hs0 := fun f a=>step_jump (f := f) (row := row) (v := a) (st := st) hj (show p.op - 15 = 2 \/ p.op - 15 = 3 by omega)
     cases hl:ev cols row l with
     | error e =>
       refine ⟨fun v hv=>by simp at hv,fun e' h=>?_⟩
       simp at h; subst h
       exact (ih1 _).2 e hl
     | ok a =>
       simp only
       rw [if_neg h5]
       by_cases hat:a = tru (p.op == 18)
       · rw [if_pos ⟨by omega,hat⟩]
         refine ⟨fun v hv x hx=>?_,fun e h=>by cases h⟩
         cases hv
         refine (ih1 _).1 a hl x ?_
         rw [hs0,if_pos (by rw [ht18]; exact hat)]
         refine mrun_le (f := f) (by omega) ?_
         rw [show pre.length + (L.length + (R.length + (0 + 1) + 1)) = pre.length + L.length + 1 + R.length + 1 from by omega] at hx
         exact hx
       · rw [if_neg (fun h=>hat h.2)]
         cases hr:ev cols row r with
         | error e =>
           refine ⟨fun v hv=>by simp at hv,fun e' h=>?_⟩
           simp at h; subst h
           refine (ih1 _).1 a hl _ ?_
           rw [hs0,if_neg (by rw [ht18]; exact hat)]
           have := (ih2 (f + 1) (a :: st)).2 e hr
           exact this
         | ok b =>
           simp only
           have hs := step_two (f := f) (row := row) (u := a) (v := b) (st := st) hc (show 8 <= p.op + 2 by omega)
           simp only [Nat.add_sub_cancel] at hs
           refine ⟨fun v hv x hx=>?_,fun e h=>?_⟩
           · refine (ih1 _).1 a hl x ?_
             rw [hs0,if_neg (by rw [ht18]; exact hat)]
             refine (ih2 (f + 1) (a :: st)).1 b hr x ?_
             rw [show pre.length + L.length + 1 + R.length = pre.length + (L.length + 1 + R.length) from by omega,hs,hv]; simp only
             rw [show pre.length + (L.length + (R.length + (0 + 1) + 1)) = pre.length + (L.length + 1 + R.length) + 1 from by omega] at hx; exact hx
           · refine (ih1 _).1 a hl _ ?_
             rw [hs0,if_neg (by rw [ht18]; exact hat)]
             refine (ih2 (f + 1) (a :: st)).1 b hr _ ?_
             rw [show pre.length + L.length + 1 + R.length = pre.length + (L.length + 1 + R.length) from by omega,hs,h]
theorem gen_whole (cols:List Col) (row:List V) (t:T) (hw:Wf t) (ht:∃ ty,tc cols t = .ok ty) (hrow:cols.length <= row.length):mrun (gen cols 0 t) row ((gen cols 0 t).length + 1) 0 [] = some (ev cols row t) := by
 have h := gen_run cols (gen cols 0 t) row t [] [] 1 [] hw ht hrow (by simp)
 simp only [List.length_nil,Nat.zero_add] at h
 rw [Nat.add_comm]
 cases he:ev cols row t with
 | error e=>exact h.2 e he
 | ok v =>
   refine h.1 v he _ ?_
   rw [mrun]
   rw [List.getElem?_eq_none (by omega)]
end Pl
namespace Pl
open Go.Deep
def sz:T -> Nat
 | .nil=>0
 | .node _ _ _ l r=>sz l + sz r + 1
def WfK:T -> Prop
 | .nil=>True
 | .node _ _ p l r=>(p.op = 0 -> (p.kind = 0 /\ p.n = 0 /\ p.s = []) \/ (p.kind = 1 /\ p.s = [] /\ 0 <= p.n /\ p.n <= 9223372036854775807) \/ (p.kind = 2 /\ p.n = 0 /\ p.s.length <= 40) \/ (p.kind = 3 /\ (p.n = 0 \/ p.n = 1) /\ p.s = [])) /\ WfK l /\ WfK r
def TokOk (ts:List Tok):Prop := ∀ t ∈ ts,(t.k = 2 -> 0 <= t.n /\ t.n <= 9223372036854775807) /\ (t.k = 3 -> t.s.length <= 40) /\ (t.k = 1 -> t.s.length <= 10 /\ t.s ≠ [])
def Good (p:P):Prop := ∀ ts x r,TokOk ts -> p ts = some (x,r) -> Wf x /\ WfK x /\ sz x + r.length <= ts.length /\ TokOk r
theorem TokOk.tail {ts:List Tok} (h:TokOk ts):TokOk ts.tail := fun t ht=>h t (List.mem_of_mem_tail ht)
theorem TokOk.hd {ts:List Tok} (h:TokOk ts):((hd ts).k = 2 -> 0 <= (hd ts).n /\ (hd ts).n <= 9223372036854775807) /\ ((hd ts).k = 3 -> (hd ts).s.length <= 40) /\ ((hd ts).k = 1 -> (hd ts).s.length <= 10 /\ (hd ts).s ≠ []) := by
 cases ts with
 | nil=>exact ⟨fun h=>(by cases h),fun h=>(by cases h),fun h=>(by cases h)⟩
 | cons a l=>exact h a (by simp)
theorem tail_lt {ts:List Tok} {k:Nat} (h:(Pl.hd ts).k = k) (hk:k ≠ 0):ts.tail.length + 1 = ts.length := by
 have := hd_tail_lt hk h
 simp at this ⊢; omega
theorem tail_lt' {ts:List Tok} (h:(Pl.hd ts).k ≠ 0):ts.tail.length + 1 = ts.length := tail_lt rfl h
theorem two_good {o:Nat} {x y:T} (h6:6 <= o) (h18:o <= 18) (hx:Wf x) (hy:Wf y) (kx:WfK x) (ky:WfK y):Wf (tTwo o x y) /\ WfK (tTwo o x y) := by
 unfold tTwo
 exact ⟨⟨h18,.inr (.inr ⟨hx,hy⟩),fun _=>hy,fun _=>hx⟩,⟨fun h=>absurd h (show o ≠ 0 by omega),kx,ky⟩⟩
theorem one_good {o:Nat} {x:T} (h2:2 <= o) (h5:o <= 5) (hx:Wf x) (kx:WfK x):Wf (tOne o x) /\ WfK (tOne o x) := by
 unfold tOne
 exact ⟨⟨show o <= 18 by omega,.inr (.inl ⟨h5,hx⟩),fun h=>absurd (show 6 <= o from h) (by omega),fun _=>hx⟩,⟨fun h=>absurd h (show o ≠ 0 by omega),kx,trivial⟩⟩
theorem chain_good {part:P} {op:Nat -> Option Nat} (hp:Good part) (h0:op 0 = none) (hop:∀ k o,op k = some o -> 6 <= o /\ o <= 18):∀ (f:Nat) (x:T) (ts:List Tok) (y:T) (r:List Tok),TokOk ts -> Wf x -> WfK x -> chain part op f x ts = some (y,r) -> Wf y /\ WfK y /\ sz y + r.length <= sz x + ts.length /\ TokOk r
 | 0,_,_,_,_,_,_,_,h=>by simp [chain] at h
 | f + 1,x,ts,y,r,ht,hx,kx,h=>by
   unfold chain at h
   split at h
   · simp at h; obtain ⟨rfl,rfl⟩ := h; exact ⟨hx,kx,Nat.le_refl _,ht⟩
   · rename_i o ho
     split at h
     · cases h
     · rename_i z r' hz
       obtain ⟨a1,a2,a3,a4⟩ := hp _ _ _ ht.tail hz
       obtain ⟨o1,o2⟩ := hop _ _ ho
       have ht2 := two_good o1 o2 hx a1 kx a2
       obtain ⟨b1,b2,b3,b4⟩ := chain_good hp h0 hop f _ _ _ _ a4 ht2.1 ht2.2 h
       refine ⟨b1,b2,?_,b4⟩
       have hl := tail_lt' (ts := ts) (fun e=>by rw [e,h0] at ho; cases ho)
       have:sz (tTwo o x z) = sz x + sz z + 1 := rfl
       omega
theorem chained_good {part:P} {op:Nat -> Option Nat} (hp:Good part) (h0:op 0 = none) (hop:∀ k o,op k = some o -> 6 <= o /\ o <= 18):Good (chained part op) := by
 intro ts x r ht h
 unfold chained at h
 split at h
 · cases h
 · rename_i y r' hy
   obtain ⟨a1,a2,a3,a4⟩ := hp _ _ _ ht hy
   obtain ⟨b1,b2,b3,b4⟩ := chain_good hp h0 hop _ _ _ _ _ a4 a1 a2 h
   exact ⟨b1,b2,by omega,b4⟩
theorem lit_good {kind n:Int} {s:List UInt8} (h:(kind = 0 /\ n = 0 /\ s = []) \/ (kind = 1 /\ s = [] /\ 0 <= n /\ n <= 9223372036854775807) \/ (kind = 2 /\ n = 0 /\ s.length <= 40) \/ (kind = 3 /\ (n = 0 \/ n = 1) /\ s = [])):Wf (tLit kind n s) /\ WfK (tLit kind n s) /\ sz (tLit kind n s) = 1 := by
 unfold tLit
 exact ⟨⟨by simp,.inl (by simp),fun h=>absurd h (by simp),fun h=>absurd h (by simp)⟩,⟨fun _=>h,trivial,trivial⟩,rfl⟩
theorem name_good (src name:List UInt8):Wf (tName src name) /\ WfK (tName src name) /\ sz (tName src name) = 1 := by
 unfold tName
 exact ⟨⟨by simp,.inl (by simp),fun h=>absurd h (by simp),fun h=>absurd h (by simp)⟩,⟨fun h=>absurd h (by simp),trivial,trivial⟩,rfl⟩
theorem single_good' {val:P} (hv:Good val):Good (pSingle val) := by
 intro ts x r ht h
 unfold pSingle at h
 split at h
 · rename_i h7
   split at h
   · cases h
   · rename_i y r1 hz
     split at h
     · rename_i h8
       simp at h; obtain ⟨rfl,rfl⟩ := h
       obtain ⟨a1,a2,a3,a4⟩ := hv _ _ _ ht.tail hz
       have := tail_lt h7 (by decide)
       have := tail_lt h8 (by decide)
       exact ⟨a1,a2,by omega,a4.tail⟩
     · cases h
 · split at h
   · simp at h; obtain ⟨rfl,rfl⟩ := h
     have hl := lit_good (kind := 3) (n := 1) (s := []) (by simp)
     have := tail_lt ‹_› (by decide)
     exact ⟨hl.1,hl.2.1,by omega,ht.tail⟩
   · split at h
     · simp at h; obtain ⟨rfl,rfl⟩ := h
       have hl := lit_good (kind := 3) (n := 0) (s := []) (by simp)
       have := tail_lt ‹_› (by decide)
       exact ⟨hl.1,hl.2.1,by omega,ht.tail⟩
     · split at h
       · simp at h; obtain ⟨rfl,rfl⟩ := h
         have hl := lit_good (kind := 0) (n := 0) (s := []) (by simp)
         have := tail_lt ‹_› (by decide)
         exact ⟨hl.1,hl.2.1,by omega,ht.tail⟩
       · split at h
         · rename_i h2
           simp at h; obtain ⟨rfl,rfl⟩ := h
           have hl := lit_good (kind := 1) (n := (hd ts).n) (s := []) (by have := ht.hd.1 h2; simp; omega)
           have := tail_lt h2 (by decide)
           exact ⟨hl.1,hl.2.1,by omega,ht.tail⟩
         · split at h
           · rename_i h3
             simp at h; obtain ⟨rfl,rfl⟩ := h
             have hl := lit_good (kind := 2) (n := 0) (s := (hd ts).s) (by have := ht.hd.2.1 h3; simp; omega)
             have := tail_lt h3 (by decide)
             exact ⟨hl.1,hl.2.1,by omega,ht.tail⟩
           · split at h
             · rename_i h1
               have := tail_lt h1 (by decide)
               split at h
               · rename_i h10
                 have := tail_lt h10 (by decide)
                 split at h
                 · rename_i h11
                   have := tail_lt h11 (by decide)
                   simp at h; obtain ⟨rfl,rfl⟩ := h
                   have hl := name_good (hd ts).s (hd ts.tail.tail).s
                   exact ⟨hl.1,hl.2.1,by omega,ht.tail.tail.tail⟩
                 · cases h
               · simp at h; obtain ⟨rfl,rfl⟩ := h
                 have hl := name_good [] (hd ts).s
                 exact ⟨hl.1,hl.2.1,by omega,ht.tail⟩
             · cases h
theorem signed_good' {sgn single:P} (h1:Good sgn) (h2:Good single):Good (pSigned sgn single) := by
 intro ts x r ht h
 unfold pSigned at h
 split at h
 · rename_i h16
   split at h
   · cases h
   · rename_i z r' hz
     simp at h; obtain ⟨rfl,rfl⟩ := h
     obtain ⟨a1,a2,a3,a4⟩ := h1 _ _ _ ht.tail hz
     have := tail_lt h16 (by decide)
     have ho := one_good (o := 2) (by decide) (by decide) a1 a2
     have:sz (tOne 2 z) = sz z + 0 + 1 := rfl
     exact ⟨ho.1,ho.2,by omega,a4⟩
 · exact h2 _ _ _ ht h
theorem is_good {x:T} {ts:List Tok} {y:T} {r:List Tok} (ht:TokOk ts) (hx:Wf x) (kx:WfK x) (h:pIs x ts = some (y,r)):Wf y /\ WfK y /\ sz y + r.length <= sz x + ts.length /\ TokOk r := by
 unfold pIs at h
 split at h
 · rename_i h43
   have := tail_lt h43 (by decide)
   split at h
   · rename_i h45
     have := tail_lt h45 (by decide)
     simp at h; obtain ⟨rfl,rfl⟩ := h
     have ho := one_good (o := 5) (by decide) (by decide) hx kx
     have:sz (tOne 5 x) = sz x + 0 + 1 := rfl
     exact ⟨ho.1,ho.2,by omega,ht.tail.tail⟩
   · cases h
 · split at h
   · rename_i h45
     have := tail_lt h45 (by decide)
     simp at h; obtain ⟨rfl,rfl⟩ := h
     have ho := one_good (o := 4) (by decide) (by decide) hx kx
     have:sz (tOne 4 x) = sz x + 0 + 1 := rfl
     exact ⟨ho.1,ho.2,by omega,ht.tail⟩
   · cases h
theorem cmpOp_le {k o:Nat} (h:cmpOp k = some o):6 <= o /\ o <= 18 /\ k ≠ 0 := by
 unfold cmpOp at h
 repeat' (split at h)
 all_goals first
   | (cases h; done)
   | (cases h; omega)
theorem comp_good {sum:P} (hs:Good sum):Good (pComp sum) := by
 intro ts x r ht h
 unfold pComp at h
 split at h
 · cases h
 · rename_i y r1 hy
   obtain ⟨a1,a2,a3,a4⟩ := hs _ _ _ ht hy
   split at h
   · rename_i o ho
     split at h
     · cases h
     · rename_i z r2 hz
       simp at h; obtain ⟨rfl,rfl⟩ := h
       obtain ⟨b1,b2,b3,b4⟩ := hs _ _ _ a4.tail hz
       obtain ⟨o1,o2,o3⟩ := cmpOp_le ho
       have ht2 := two_good o1 o2 a1 b1 a2 b2
       have hl := tail_lt' o3
       have:sz (tTwo o y z) = sz y + sz z + 1 := rfl
       exact ⟨ht2.1,ht2.2,by omega,b4⟩
   · split at h
     · rename_i h44
       obtain ⟨b1,b2,b3,b4⟩ := is_good a4.tail a1 a2 h
       have := tail_lt h44 (by decide)
       exact ⟨b1,b2,by omega,b4⟩
     · simp at h; obtain ⟨rfl,rfl⟩ := h; exact ⟨a1,a2,a3,a4⟩
theorem no_good {no comp:P} (h1:Good no) (h2:Good comp):Good (pNo no comp) := by
 intro ts x r ht h
 unfold pNo at h
 split at h
 · rename_i h43
   split at h
   · cases h
   · rename_i z r' hz
     simp at h; obtain ⟨rfl,rfl⟩ := h
     obtain ⟨a1,a2,a3,a4⟩ := h1 _ _ _ ht.tail hz
     have := tail_lt h43 (by decide)
     have ho := one_good (o := 3) (by decide) (by decide) a1 a2
     have:sz (tOne 3 z) = sz z + 0 + 1 := rfl
     exact ⟨ho.1,ho.2,by omega,a4⟩
 · exact h2 _ _ _ ht h
theorem orOp_le (k o:Nat) (h:orOp k = some o):6 <= o /\ o <= 18 := by
 unfold orOp at h; split at h <;> cases h; omega
theorem andOp_le (k o:Nat) (h:andOp k = some o):6 <= o /\ o <= 18 := by
 unfold andOp at h; split at h <;> cases h; omega
theorem sumOp_le (k o:Nat) (h:sumOp k = some o):6 <= o /\ o <= 18 := by
 unfold sumOp at h
 repeat' (split at h)
 all_goals first
   | (cases h; done)
   | (cases h; omega)
theorem prodOp_le (k o:Nat) (h:prodOp k = some o):6 <= o /\ o <= 18 := by
 unfold prodOp at h
 repeat' (split at h)
 all_goals first
   | (cases h; done)
   | (cases h; omega)
theorem lv_good:∀ k,Good (lv k).value /\ Good (lv k).no' /\ Good (lv k).signed := by
 have up:∀ v:Lv,Good v.val -> Good v.no -> Good v.sgn -> Good v.value /\ Good v.no' /\ Good v.signed := by
   intro v a b c
   have d := single_good' a
   have e:Good v.signed := signed_good' c d
   have f:Good v.prod := chained_good e rfl prodOp_le
   have g:Good v.sum := chained_good f rfl sumOp_le
   have i:Good v.comp := comp_good g
   have j:Good v.no' := no_good b i
   have l:Good v.both := chained_good j rfl andOp_le
   have m:Good v.value := chained_good l rfl orOp_le
   exact ⟨m,j,e⟩
 intro k
 induction k with
 | zero=>exact up _ (by intro _ _ _ _ h; cases h) (by intro _ _ _ _ h; cases h) (by intro _ _ _ _ h; cases h)
 | succ k ih=>exact up _ ih.1 ih.2.1 ih.2.2
theorem val_good:Good (pVal 20) := (lv_good 20).1
theorem litTok_ok:∀ (acc l:List UInt8),(litTok acc l).1.k = 3 -> (litTok acc l).1.s.length <= 40
 | _,[],h=>by simp [litTok,bad] at h
 | acc,[c],h=>by
   unfold litTok at h ⊢
   split at h
   · rw [if_pos ‹_›]; simp only at h ⊢
     split at h
     · simp [bad] at h
     · rw [if_neg ‹_›]; simp; omega
   · simp [bad] at h
 | acc,c :: d :: r,h=>by
   unfold litTok at h ⊢
   split at h
   · rw [if_pos ‹_›]
     split at h
     · rw [if_pos ‹_›]; exact litTok_ok _ _ h
     · rw [if_neg ‹_›]; simp only at h ⊢
       split at h
       · simp [bad] at h
       · rw [if_neg ‹_›]; simp; omega
   · rw [if_neg ‹_›]; exact litTok_ok _ _ h
theorem tw_ne {p:UInt8 -> Bool} {c:UInt8} {r:List UInt8} (h:p c = true):(c :: r).takeWhile p ≠ [] := by
 rw [List.takeWhile_cons_of_pos h]; simp
theorem look_ok (l:List UInt8):((look l).1.k = 2 -> 0 <= (look l).1.n /\ (look l).1.n <= 9223372036854775807) /\ ((look l).1.k = 3 -> (look l).1.s.length <= 40) /\ ((look l).1.k = 1 -> (look l).1.s.length <= 10 /\ (look l).1.s ≠ []) := by
 unfold look
 generalize l.dropWhile isBlank = m
 cases m with
 | nil=>exact ⟨fun h=>(by cases h),fun h=>(by cases h),fun h=>(by cases h)⟩
 | cons c r =>
   simp only [headTok]
   split
   · rename_i hlet
     have hne := tw_ne (p := isLD) (c := c) (r := r) (isLD_of_let hlet)
     generalize hw:List.takeWhile isLD (c :: r) = w at hne
     simp only [wordTok]
     split
     · rename_i i hi
       have := kwFrom_some hi
       exact ⟨fun h=>by simp at h; omega,fun h=>by simp at h; omega,fun h=>by simp at h; omega⟩
     · split
       · exact ⟨fun h=>by simp [bad] at h,fun h=>by simp [bad] at h,fun h=>by simp [bad] at h⟩
       · exact ⟨fun h=>by simp at h,fun h=>by simp at h,fun _=>⟨by simp; omega,hne⟩⟩
   · split
     · simp only [numTok]
       split
       · exact ⟨fun h=>by simp [bad] at h,fun h=>by simp [bad] at h,fun h=>by simp [bad] at h⟩
       · refine ⟨fun _=>⟨?_,by simp; omega⟩,fun h=>by simp at h,fun h=>by simp at h⟩
         exact worth_ge _ 0 (Int.le_refl 0) (fun d hd=>mem_tw hd)
     · split
       · have h3 := litTok_k [] r
         refine ⟨fun h=>?_,litTok_ok [] r,fun h=>?_⟩
         · rcases h3 with h3 | h3
           · omega
           · rw [h3] at h; simp [bad] at h
         · rcases h3 with h3 | h3
           · omega
           · rw [h3] at h; simp [bad] at h
       · have h3 := signTok_k (c :: r)
         refine ⟨fun h=>?_,fun h=>?_,fun h=>?_⟩
         all_goals
           rcases h3 with h3 | h3 | h3
           · rw [h3] at h; simp [fin] at h
           · omega
           · rw [h3] at h; simp [bad] at h
theorem toks_ok:∀ (n:Nat) (l:List UInt8),l.length < n -> TokOk (toks l)
 | 0,_,h=>by omega
 | n + 1,l,hn=>by
   rw [toks_unfold]
   rcases look_k l with h | h | h
   · rw [h,if_pos (show fin.k = 0 from rfl)]; intro t ht; cases ht
   · rw [if_neg (by omega),if_neg (by omega)]
     intro t ht
     rcases List.mem_cons.1 ht with rfl | ht
     · exact look_ok l
     · exact toks_ok n (look l).2 (by have := look_len l (by omega); omega) t ht
   · rw [h,if_neg (by decide),if_pos (by decide)]
     intro t ht
     simp at ht; subst ht
     exact ⟨fun h=>by simp [bad] at h,fun h=>by simp [bad] at h,fun h=>by simp [bad] at h⟩
theorem toks_length:∀ (n:Nat) (l:List UInt8),l.length < n -> (toks l).length <= l.length
 | 0,_,h=>by omega
 | n + 1,l,hn=>by
   rw [toks_unfold]
   rcases look_k l with h | h | h
   · rw [h,if_pos (show fin.k = 0 from rfl)]; simp
   · rw [if_neg (by omega),if_neg (by omega)]
     have := look_len l (by omega)
     have := toks_length n (look l).2 (by omega)
     simp; omega
   · have := look_len l (by rw [h]; decide)
     rw [h,if_neg (by decide),if_pos (by decide)]
     simp; omega
theorem gen_len (cols:List Col):∀ (t:T) (b:Nat),(gen cols b t).length <= 2 * sz t
 | .nil,b=>by simp [gen]
 | .node a1 a2 p l r,b=>by
   have h1 := gen_len cols l b
   have h2 := gen_len cols r (b + (gen cols b l).length)
   have h3 := gen_len cols r (b + (gen cols b l).length + 1)
   rw [gen,sz]
   repeat' split
   all_goals (simp; try omega)
end Pl
namespace Pl
open Go.Deep
structure Tab where
 name:List UInt8
 cols:List (List UInt8 × Int)
 rows:List (List V)
abbrev DB := List Tab
def tabAt (db:DB) (name:List UInt8):Option Nat := db.findIdx? (fun t=>t.name == name)
def tabD (db:DB) (i:Nat):Tab := db.getD i ⟨[],[],[]⟩
def setRows (db:DB) (i:Nat) (rows:List (List V)):DB := db.modify i (fun t=>⟨t.name,t.cols,rows⟩)
def colIdx (t:Tab) (name:List UInt8):Option Nat := t.cols.findIdx? (fun c=>c.1 == name)
def scope (src:List UInt8) (t:Tab):List Col := t.cols.map (fun c=>⟨src,c.1,c.2⟩)
def dupGo:List (List UInt8) -> List (List UInt8) -> Bool
 | _,[]=>false
 | ahead,x :: xs=>ahead.contains x || dupGo (ahead ++ [x]) xs
def dup (l:List (List UInt8)):Bool := dupGo [] l
def tcAs (cols:List Col) (t:T) (want:Int):Option Nat := match tc cols t with
 | .error e=>some e
 | .ok a=>if alike a want = true then none else some 3
def tcAll (cols:List Col):List T -> Option Nat
 | []=>none
 | t :: ts=>match tc cols t with
   | .error e=>some e
   | .ok _=>tcAll cols ts
def tcRow:List T -> List Int -> Option Nat
 | t :: ts,w :: ws=>match tcAs [] t w with
   | some e=>some e
   | none=>tcRow ts ws
 | _,_=>none
def evAll (cols:List Col) (row:List V):List T -> Out (List V)
 | []=>.ok []
 | t :: ts=>match ev cols row t with
   | .error e=>.error e
   | .ok v=>match evAll cols row ts with
     | .error e=>.error e
     | .ok vs=>.ok (v :: vs)
def evRows (cols:List Col) (ts:List T):List (List V) -> Out (List (List V))
 | []=>.ok []
 | r :: rs=>match evAll cols r ts with
   | .error e=>.error e
   | .ok v=>match evRows cols ts rs with
     | .error e=>.error e
     | .ok vs=>.ok (v :: vs)
def cond:T -> T
 | .nil=>tLit 3 1 []
 | .node a b p l r=>.node a b p l r
def sift (cols:List Col) (c:T):List (List V) -> Out (List (List V) × List (List V))
 | []=>.ok ([],[])
 | r :: rs=>match ev cols r c with
   | .error e=>.error e
   | .ok v=>match sift cols c rs with
     | .error e=>.error e
     | .ok z=>.ok (@ite _ (v = tru true) (decV v (tru true)) (r :: z.1,z.2) (z.1,r :: z.2))
structure Ans where
 rows:List (List V)
 count:Int
 err:Nat
def no (e:Nat):Ans := ⟨[],0,e⟩
def doCreate (db:DB) (s:St):DB × Ans :=
 if ((tabAt db s.table).isSome || dup (s.items.map (·.name))) = true then (db,no 2)
 else if db.length = 6 then (db,no 6)
 else (db ++ [⟨s.table,s.items.map (fun i=>(i.name,i.type)),[]⟩],no 0)
def doInsert (db:DB) (s:St):DB × Ans := match tabAt db s.table with
 | none=>(db,no 2)
 | some i =>
   if s.items.length ≠ (tabD db i).cols.length then (db,no 3) else
   match tcRow (s.items.map (·.tree)) ((tabD db i).cols.map (·.2)) with
   | some e=>(db,no e)
   | none=>match evAll [] [] (s.items.map (·.tree)) with
     | .error e=>(db,no e)
     | .ok row=>if (tabD db i).rows.length = 25 then (db,no 6) else (setRows db i ((tabD db i).rows ++ [row]),⟨[],1,0⟩)
def doDelete (db:DB) (s:St):DB × Ans := match tabAt db s.table with
 | none=>(db,no 2)
 | some i =>
   match tcAs (scope (tabD db i).name (tabD db i)) (cond s.whr) 3 with
   | some e=>(db,no e)
   | none=>match sift (scope (tabD db i).name (tabD db i)) (cond s.whr) (tabD db i).rows with
     | .error e=>(db,no e)
     | .ok z=>(setRows db i z.2,⟨[],z.1.length,0⟩)
def setsGo (t:Tab):List Nat -> List It -> Out (List Nat)
 | acc,[]=>.ok acc
 | acc,it :: its=>match colIdx t it.name with
   | none=>.error 2
   | some k=>if acc.contains k = true then .error 2 else
     match tcAs (scope t.name t) it.tree ((t.cols.getD k ([],0)).2) with
     | some e=>.error e
     | none=>setsGo t (acc ++ [k]) its
def setRow (cols:List Col) (row:List V):List V -> List Nat -> List T -> Out (List V)
 | out,k :: ks,t :: ts=>match ev cols row t with
   | .error e=>.error e
   | .ok v=>setRow cols row (out.set k v) ks ts
 | out,_,_=>.ok out
def updGo (cols:List Col) (c:T) (ks:List Nat) (ts:List T):List (List V) -> Out (List (List V) × Nat)
 | []=>.ok ([],0)
 | r :: rs=>match ev cols r c with
   | .error e=>.error e
   | .ok v=>@ite _ (v = tru true) (decV v (tru true)) (match setRow cols r r ks ts with
       | .error e=>.error e
       | .ok r' => match updGo cols c ks ts rs with
         | .error e=>.error e
         | .ok z=>.ok (r' :: z.1,z.2 + 1))
     (match updGo cols c ks ts rs with
       | .error e=>.error e
       | .ok z=>.ok (r :: z.1,z.2))
def doUpdate (db:DB) (s:St):DB × Ans := match tabAt db s.table with
 | none=>(db,no 2)
 | some i =>
   match setsGo (tabD db i) [] s.items with
   | .error e=>(db,no e)
   | .ok ks=>match tcAs (scope (tabD db i).name (tabD db i)) (cond s.whr) 3 with
     | some e=>(db,no e)
     | none=>match updGo (scope (tabD db i).name (tabD db i)) (cond s.whr) ks (s.items.map (·.tree)) (tabD db i).rows with
       | .error e=>(db,no e)
       | .ok z=>(setRows db i z.1,⟨[],z.2,0⟩)
def srcsGo (db:DB):List (List UInt8) -> List It -> Out (List Nat)
 | _,[]=>.ok []
 | called,it :: its=>match tabAt db it.name with
   | none=>.error 2
   | some i=>if called.contains it.other = true then .error 2 else
     match srcsGo db (called ++ [it.other]) its with
     | .error e=>.error e
     | .ok is=>.ok (i :: is)
def scopes (db:DB):List Nat -> List It -> List Col
 | i :: is,it :: its=>scope it.other (tabD db i) ++ scopes db is its
 | _,_=>[]
def onsGo (db:DB):List Col -> List Nat -> List It -> Option Nat
 | cols,i :: is,it :: its=>match tcAs (cols ++ scope it.other (tabD db i)) it.tree 3 with
   | some e=>some e
   | none=>onsGo db (cols ++ scope it.other (tabD db i)) is its
 | _,_,_=>none
def beside (cols:List Col) (c:T) (r:List V):List (List V) -> Out (List (List V))
 | []=>.ok []
 | q :: qs=>match ev cols (r ++ q) c with
   | .error e=>.error e
   | .ok v=>match beside cols c r qs with
     | .error e=>.error e
     | .ok z=>.ok (@ite _ (v = tru true) (decV v (tru true)) ((r ++ q) :: z) z)
def joinRows (cols:List Col) (c:T) (left:Bool) (n:Nat) (qs:List (List V)):List (List V) -> Out (List (List V))
 | []=>.ok []
 | r :: rs=>match beside cols c r qs with
   | .error e=>.error e
   | .ok z=>match joinRows cols c left n qs rs with
     | .error e=>.error e
     | .ok y=>.ok ((if (left && z.isEmpty) = true then [r ++ List.replicate n nul] else z) ++ y)
def joinsGo (db:DB):List Col -> List (List V) -> List Nat -> List It -> Out (List (List V))
 | cols,rows,i :: is,it :: its=>match joinRows (cols ++ scope it.other (tabD db i)) it.tree it.mark (tabD db i).cols.length (tabD db i).rows rows with
   | .error e=>.error e
   | .ok z=>joinsGo db (cols ++ scope it.other (tabD db i)) z is its
 | _,rows,_,_=>.ok rows
def stars (cols:List Col):List T := cols.map (fun c=>tName c.src c.name)
def cmpRanks:List V -> List V -> List Bool -> Int
 | a :: as,b :: bs,d :: ds=>if order a b = 0 then cmpRanks as bs ds else if d = true then - order a b else order a b
 | _,_,_=>0
def ins {α:Type} (le:α -> α -> Bool) (x:α):List α -> List α
 | []=>[x]
 | y :: ys=>if le x y = true then x :: y :: ys else y :: ins le x ys
def isort {α:Type} (le:α -> α -> Bool):List α -> List α
 | []=>[]
 | x :: xs=>ins le x (isort le xs)
def sorted (rows ranks:List (List V)) (ds:List Bool):List (List V) :=
 (isort (fun a b=>decide (cmpRanks a.1 b.1 ds <= 0)) (ranks.zip rows)).map (·.2)
def rowSame:List V -> List V -> Bool
 | [],[]=>true
 | a :: as,b :: bs=>V.same a b && rowSame as bs
 | _,_=>false
def onceGo:List (List V) -> List (List V) -> List (List V)
 | _,[]=>[]
 | met,r :: rs=>if met.any (rowSame r) = true then onceGo met rs else r :: onceGo (met ++ [r]) rs
def once (rows:List (List V)):List (List V) := onceGo [] rows
def window (rows:List (List V)) (offset limit:Int):List (List V) :=
 if limit < 0 then rows.drop offset.toNat else (rows.drop offset.toNat).take limit.toNat
def valuesOf (s:St) (cols:List Col):List T := if s.all = true then stars cols else s.items.map (·.tree)
def chosen (cols:List Col) (s:St) (rows:List (List V)):Out (List (List V)) := match sift cols (cond s.whr) rows with
 | .error e=>.error e
 | .ok z=>match evRows cols (s.keys.map (·.tree)) z.1 with
   | .error e=>.error e
   | .ok ranks=>match evRows cols (valuesOf s cols) (sorted z.1 ranks (s.keys.map (·.mark))) with
     | .error e=>.error e
     | .ok out=>.ok (window (if s.distinct = true then once out else out) s.offset s.limit)
def doSelect (db:DB) (s:St):DB × Ans := match srcsGo db [] s.sources with
 | .error e=>(db,no e)
 | .ok is =>
   match onsGo db (scopes db (is.take 1) (s.sources.take 1)) (is.drop 1) (s.sources.drop 1) with
   | some e=>(db,no e)
   | none=>match tcAll (scopes db is s.sources) (valuesOf s (scopes db is s.sources)) with
     | some e=>(db,no e)
     | none=>match tcAs (scopes db is s.sources) (cond s.whr) 3 with
       | some e=>(db,no e)
       | none=>match tcAll (scopes db is s.sources) (s.keys.map (·.tree)) with
         | some e=>(db,no e)
         | none=>match joinsGo db (scopes db (is.take 1) (s.sources.take 1)) (tabD db (is.headD 0)).rows (is.drop 1) (s.sources.drop 1) with
           | .error e=>(db,no e)
           | .ok rows=>match chosen (scopes db is s.sources) s rows with
             | .error e=>(db,no e)
             | .ok out=>(db,⟨out,0,0⟩)
def doSt (db:DB) (s:St):DB × Ans :=
 if s.kind = 99 then doCreate db s else if s.kind = 105 then doInsert db s else if s.kind = 100 then doDelete db s else if s.kind = 117 then doUpdate db s else doSelect db s
def exec (db:DB) (text:List UInt8):DB × Ans := match pParse text with
 | none=>(db,no 1)
 | some s=>doSt db s
def sepJoin (sep:List UInt8):List (List UInt8) -> List UInt8
 | []=>[]
 | [x]=>x
 | x :: y :: r=>x ++ sep ++ sepJoin sep (y :: r)
def decGo:Nat -> Nat -> List UInt8 -> List UInt8
 | 0,_,acc=>acc
 | f + 1,n,acc=>if n < 10 then UInt8.ofNat (48 + n) :: acc else decGo f (n / 10) (UInt8.ofNat (48 + n % 10) :: acc)
def dec (n:Nat):List UInt8 := decGo 20 n []
def quote:List UInt8 -> List UInt8
 | []=>[]
 | c :: r=>if c = 39 then 39 :: 39 :: quote r else c :: quote r
def typeText (t:Int):List UInt8 := if t = 1 then [73,78,84] else if t = 2 then [84,69,88,84] else [66,79,79,76]
def brackets (l:List (List UInt8)):List UInt8 := 40 :: (sepJoin [44,32] l ++ [41])
end Pl
namespace Pl
open Go.Deep
def Sep (y:List UInt8):Prop := y = [] \/ ∃ c r,y = c :: r /\ (c = 32 \/ c = 41 \/ c = 44 \/ c = 10 \/ c = 59)
theorem sep_cons {c:UInt8} {r:List UInt8} (h:c = 32 \/ c = 41 \/ c = 44 \/ c = 10 \/ c = 59):Sep (c :: r) := .inr ⟨c,r,rfl,h⟩
theorem sep_stop {p:UInt8 -> Bool} {y:List UInt8} (h:Sep y) (h32:p 32 = false) (h41:p 41 = false) (h44:p 44 = false) (h10:p 10 = false) (h59:p 59 = false):y.takeWhile p = [] /\ y.dropWhile p = y := by
 rcases h with rfl | ⟨c,r,rfl,hc⟩
 · exact ⟨rfl,rfl⟩
 · have:p c = false := by rcases hc with rfl | rfl | rfl | rfl | rfl <;> assumption
   exact ⟨List.takeWhile_cons_of_neg (by simp [this]),List.dropWhile_cons_of_neg (by simp [this])⟩
theorem tw_app {p:UInt8 -> Bool}:∀ {x y:List UInt8},(∀ c ∈ x,p c = true) -> (x ++ y).takeWhile p = x ++ y.takeWhile p /\ (x ++ y).dropWhile p = y.dropWhile p
 | [],_,_=>⟨rfl,rfl⟩
 | c :: x,y,h=>by
   have hc := h c (by simp)
   have ih := tw_app (x := x) (y := y) (fun d hd=>h d (by simp [hd]))
   rw [List.cons_append,List.takeWhile_cons_of_pos hc,List.dropWhile_cons_of_pos hc]
   exact ⟨by rw [ih.1]; rfl,ih.2⟩
theorem toks_step {l l':List UInt8} {t:Tok} (h:look l = (t,l')) (h0:t.k ≠ 0) (h9:t.k ≠ 99):toks l = t :: toks l' := by
 have := toks_cons l (by rw [h]; exact h0) (by rw [h]; exact h9)
 rw [h] at this; exact this
theorem toks_blank (z:List UInt8) {c:UInt8} (hc:isBlank c = true):toks (c :: z) = toks z := by
 have h:look (c :: z) = look z := by unfold look; rw [List.dropWhile_cons_of_pos hc]
 rw [toks_unfold,toks_unfold z,h]
theorem look_head {c:UInt8} {z:List UInt8} (hb:isBlank c = false):look (c :: z) = headTok (c :: z) := by
 unfold look; rw [List.dropWhile_cons_of_neg (by simp [hb])]
theorem toks_word {w y:List UInt8} {t:Tok} (hw:∀ c ∈ w,isLD c = true) (hl:∃ c r,w = c :: r /\ isLet c = true) (ht:wordTok w = t) (h9:t.k ≠ 99) (hy:y.takeWhile isLD = [] /\ y.dropWhile isLD = y):toks (w ++ y) = t :: toks y := by
 obtain ⟨c,r,rfl,hc⟩ := hl
 have hb:isBlank c = false := by
   have := (isLet_iff c).1 hc
   rw [Bool.eq_false_iff]; unfold isBlank; simp; omega
 have ha := tw_app (y := y) hw
 rw [hy.1,hy.2,List.append_nil] at ha
 refine toks_step (l' := y) ?_ ?_ h9
 · show look (c :: (r ++ y)) = _
   rw [look_head hb,headTok]
   rw [if_pos hc,<- List.cons_append,ha.1,ha.2,ht]
 · have := wordTok_k (c :: r)
   rw [ht] at this
   rcases this with h | h | h
   · omega
   · omega
   · rw [h]; decide
theorem toks_num {w y:List UInt8} {t:Tok} (hw:∀ c ∈ w,isDig c = true) (hne:w ≠ []) (ht:numTok w = t) (h9:t.k ≠ 99) (hy:y.takeWhile isDig = [] /\ y.dropWhile isDig = y):toks (w ++ y) = t :: toks y := by
 cases w with
 | nil=>exact absurd rfl hne
 | cons c r =>
   have hc := hw c (by simp)
   have hc' := (isDig_iff c).1 hc
   have hb:isBlank c = false := by rw [Bool.eq_false_iff]; unfold isBlank; simp; omega
   have hl:isLet c = false := isLet_f (by omega)
   have ha := tw_app (y := y) hw
   rw [hy.1,hy.2,List.append_nil] at ha
   refine toks_step (l' := y) ?_ ?_ h9
   · show look (c :: (r ++ y)) = _
     rw [look_head hb,headTok]
     rw [if_neg (by simp [hl]),if_pos hc,<- List.cons_append,ha.1,ha.2,ht]
   · have := numTok_k (c :: r)
     rw [ht] at this
     rcases this with h | h
     · omega
     · rw [h]; decide
theorem toks_sign (c:UInt8) (z:List UInt8) (k:Nat) (hk:oneSign c.toNat = k) (h9:k ≠ 99) (hs:(c.toNat ≠ 60 /\ c.toNat ≠ 62)) (hn:isBlank c = false /\ isLet c = false /\ isDig c = false /\ c.toNat ≠ 39):toks (c :: z) = ⟨k,0,[]⟩ :: toks z := by
 have h4 := oneSign_k c.toNat
 refine toks_step (l' := z) ?_ (by show k ≠ 0; unfold signK at h4; omega) h9
 rw [look_head hn.1,headTok]
 rw [if_neg (by simp [hn.2.1]),if_neg (by simp [hn.2.2.1]),if_neg hn.2.2.2]
 cases z with
 | nil=>simp only [signTok]; rw [hk]
 | cons d r =>
   simp only [signTok]
   have:twoSign c.toNat d.toNat = 99 := by
     unfold twoSign; rw [if_neg (by omega),if_neg (by omega),if_neg (by omega)]
   rw [this,if_pos rfl,hk]
theorem toks_open (z:List UInt8):toks (40 :: z) = ⟨7,0,[]⟩ :: toks z := toks_sign 40 z 7 rfl (by decide) (by decide) (by decide)
theorem toks_close (z:List UInt8):toks (41 :: z) = ⟨8,0,[]⟩ :: toks z := toks_sign 41 z 8 rfl (by decide) (by decide) (by decide)
theorem toks_comma (z:List UInt8):toks (44 :: z) = ⟨9,0,[]⟩ :: toks z := toks_sign 44 z 9 rfl (by decide) (by decide) (by decide)
theorem toks_minus (z:List UInt8):toks (45 :: z) = ⟨16,0,[]⟩ :: toks z := toks_sign 45 z 16 rfl (by decide) (by decide) (by decide)
theorem toks_space (z:List UInt8):toks (32 :: z) = toks z := toks_blank z rfl
theorem litTok_quote:∀ (s acc z:List UInt8),(acc ++ s).length <= 40 -> (z = [] \/ ∃ c r,z = c :: r /\ c ≠ 39) -> litTok acc (quote s ++ 39 :: z) = (⟨3,0,acc ++ s⟩,z)
 | [],acc,z,hl,hz=>by
   simp only [quote,List.nil_append,List.append_nil] at hl ⊢
   rcases hz with rfl | ⟨c,r,rfl,hc⟩
   · rw [litTok,if_pos (show UInt8.toNat 39 = 39 from rfl),if_neg (by omega)]
   · rw [litTok,if_pos (show UInt8.toNat 39 = 39 from rfl),if_neg (show ¬ c.toNat = 39 from fun h=>hc (UInt8.toNat_inj.1 h)),if_neg (by omega)]
 | c :: s,acc,z,hl,hz=>by
   have ih := litTok_quote s (acc ++ [c]) z (by simpa using hl) hz
   have e:acc ++ [c] ++ s = acc ++ c :: s := by simp
   rw [e] at ih
   by_cases hc:c = 39
   · subst hc
     rw [quote,if_pos rfl,List.cons_append,List.cons_append,litTok,if_pos (show UInt8.toNat 39 = 39 from rfl),if_pos (show UInt8.toNat 39 = 39 from rfl)]
     exact ih
   · rw [quote,if_neg hc,List.cons_append]
     have hn:¬ c.toNat = 39 := fun h=>hc (UInt8.toNat_inj.1 h)
     cases hq:quote s ++ 39 :: z with
     | nil=>simp at hq
     | cons d r=>rw [litTok,if_neg hn,<- hq]; exact ih
theorem toks_text {s z:List UInt8} (hl:s.length <= 40) (hz:z = [] \/ ∃ c r,z = c :: r /\ c ≠ 39):toks (39 :: (quote s ++ 39 :: z)) = ⟨3,0,s⟩ :: toks z := by
 refine toks_step (l' := z) ?_ (show (3:Nat) ≠ 0 by decide) (show (3:Nat) ≠ 99 by decide)
 rw [look_head (by decide),headTok]
 rw [if_neg (by decide),if_neg (by decide),if_pos (by decide),litTok_quote s [] z (by simpa using hl) hz]
 rfl
theorem sep_not39 {y:List UInt8} (h:Sep y):y = [] \/ ∃ c r,y = c :: r /\ c ≠ 39 := by
 rcases h with rfl | ⟨c,r,rfl,hc⟩
 · exact .inl rfl
 · exact .inr ⟨c,r,rfl,by rcases hc with rfl | rfl | rfl | rfl | rfl <;> decide⟩
def Cl (x:List UInt8) (ts:List Tok):Prop := ∀ y,Sep y -> toks (x ++ y) = ts ++ toks y
theorem Cl.word {w:List UInt8} {t:Tok} (hw:(w.all isLD) = true) (hl:(w.headD 0 |> isLet) = true) (ht:wordTok w = t) (h9:t.k ≠ 99):Cl w [t] := fun y hy=>by
 refine toks_word (fun c hc=>by simpa using List.all_eq_true.1 hw c hc) ?_ ht h9 (sep_stop hy rfl rfl rfl rfl rfl)
 cases w with
 | nil=>simp [isLet] at hl
 | cons c r=>exact ⟨c,r,rfl,hl⟩
theorem Cl.brackets {x:List UInt8} {ts:List Tok} (h:Cl x ts):Cl (40 :: (x ++ [41])) (⟨7,0,[]⟩ :: (ts ++ [⟨8,0,[]⟩])) := fun y _=>by
 show toks (40 :: ((x ++ [41]) ++ y)) = _
 rw [toks_open,List.append_assoc,show [41] ++ y = 41 :: y from rfl,h _ (sep_cons (.inr (.inl rfl)))]
 rw [toks_close]; simp
theorem Cl.mid {x y m:List UInt8} {ts us ms:List Tok} (h:Cl x ts) (k:Cl y us) (hs:Sep m) (hm:∀ z,toks (m ++ z) = ms ++ toks z) (hne:m ≠ []):Cl (x ++ (m ++ y)) (ts ++ (ms ++ us)) := fun z hz=>by
 rw [List.append_assoc,List.append_assoc,h _ ?_,hm,k z hz]
 · simp
 · cases m with
   | nil=>exact absurd rfl hne
   | cons c r =>
     rcases hs with h | ⟨c',r',h,hc⟩
     · cases h
     · cases h; exact sep_cons hc
end Pl
namespace Pl
open Go.Deep
set_option linter.unusedVariables false
abbrev kt (k:Nat):Tok := ⟨k,0,[]⟩
def Sg (n:Nat) (ts:List Tok) (x:T):Prop := ∀ m rest,n <= m -> (hd rest).k ≠ 10 -> (lv m).single (ts ++ rest) = some (x,rest) /\ (hd (ts ++ rest)).k ≠ 16 /\ (hd (ts ++ rest)).k ≠ 43
theorem Sg.mono {n n':Nat} {ts:List Tok} {x:T} (h:Sg n ts x) (hn:n <= n'):Sg n' ts x := fun m rest hm hr=>h m rest (by omega) hr
theorem chained_stop {part:P} {op:Nat -> Option Nat} {ts rest:List Tok} {x:T} (h:part ts = some (x,rest)) (ho:op (hd rest).k = none):chained part op ts = some (x,rest) := by
 unfold chained; rw [h]; simp only; rw [chain,ho]
theorem chained_one {part:P} {op:Nat -> Option Nat} {ts us rest:List Tok} {x y:T} {t:Tok} {o:Nat} (h:part ts = some (x,t :: us)) (ho:op t.k = some o) (h2:part us = some (y,rest)) (h3:op (hd rest).k = none):chained part op ts = some (tTwo o x y,rest) := by
 unfold chained; rw [h]; simp only
 rw [chain,show (hd (t :: us)).k = t.k from rfl,ho]; simp only
 rw [show (t :: us).tail = us from rfl,h2]; simp only
 rw [List.length_cons,chain,h3]
theorem Sg.signed {n m:Nat} {ts rest:List Tok} {x:T} (h:Sg n ts x) (hm:n <= m) (hr:(hd rest).k ≠ 10):(lv m).signed (ts ++ rest) = some (x,rest) := by
 obtain ⟨h1,h2,h3⟩ := h m rest hm hr
 show pSigned _ _ _ = _
 unfold pSigned; rw [if_neg h2]; exact h1
theorem Sg.prod {n m:Nat} {ts rest:List Tok} {x:T} (h:Sg n ts x) (hm:n <= m) (hr:(hd rest).k ≠ 10) (hp:prodOp (hd rest).k = none):(lv m).prod (ts ++ rest) = some (x,rest) :=
 chained_stop (h.signed hm hr) hp
theorem Sg.sum {n m:Nat} {ts rest:List Tok} {x:T} (h:Sg n ts x) (hm:n <= m) (hr:(hd rest).k ≠ 10) (hp:prodOp (hd rest).k = none) (hs:sumOp (hd rest).k = none):(lv m).sum (ts ++ rest) = some (x,rest) :=
 chained_stop (h.prod hm hr hp) hs
theorem Sg.comp {n m:Nat} {ts rest:List Tok} {x:T} (h:Sg n ts x) (hm:n <= m) (hr:(hd rest).k ≠ 10) (hp:prodOp (hd rest).k = none) (hs:sumOp (hd rest).k = none) (hc:cmpOp (hd rest).k = none) (hi:(hd rest).k ≠ 44):(lv m).comp (ts ++ rest) = some (x,rest) := by
 show pComp _ _ = _
 unfold pComp
 rw [h.sum hm hr hp hs]; simp only; rw [hc]; simp only; rw [if_neg hi]
theorem Sg.no {n m:Nat} {ts rest:List Tok} {x:T} (h:Sg n ts x) (hm:n <= m) (hr:(hd rest).k ≠ 10) (hp:prodOp (hd rest).k = none) (hs:sumOp (hd rest).k = none) (hc:cmpOp (hd rest).k = none) (hi:(hd rest).k ≠ 44):(lv m).no' (ts ++ rest) = some (x,rest) := by
 obtain ⟨_,_,h3⟩ := h m rest hm hr
 show pNo _ _ _ = _
 unfold pNo; rw [if_neg h3]; exact h.comp hm hr hp hs hc hi
def endK (k:Nat):Bool := k == 0 || k == 8 || k == 9 || k == 11 || k == 26 || k == 27 || k == 36 || k == 38 || k == 39 || k == 40 || k == 33 || k == 34
theorem endK_none {k:Nat} (h:endK k = true):k ≠ 10 /\ prodOp k = none /\ sumOp k = none /\ cmpOp k = none /\ k ≠ 44 /\ andOp k = none /\ orOp k = none := by
 have hk:k = 0 \/ k = 8 \/ k = 9 \/ k = 11 \/ k = 26 \/ k = 27 \/ k = 36 \/ k = 38 \/ k = 39 \/ k = 40 \/ k = 33 \/ k = 34 := by simp [endK] at h; omega
 rcases hk with rfl | rfl | rfl | rfl | rfl | rfl | rfl | rfl | rfl | rfl | rfl | rfl <;> decide
def Vl (n:Nat) (ts:List Tok) (x:T):Prop := ∀ m rest,n <= m -> endK (hd rest).k = true -> (lv m).value (ts ++ rest) = some (x,rest)
theorem Vl.mono {n n':Nat} {ts:List Tok} {x:T} (h:Vl n ts x) (hn:n <= n'):Vl n' ts x := fun m rest hm hr=>h m rest (by omega) hr
theorem value_no {m:Nat} {ts rest:List Tok} {x:T} (h:(lv m).no' ts = some (x,rest)) (he:endK (hd rest).k = true):(lv m).value ts = some (x,rest) := by
 obtain ⟨_,_,_,_,_,ha,ho⟩ := endK_none he
 exact chained_stop (chained_stop h ha) ho
theorem value_comp {m:Nat} {ts rest:List Tok} {x:T} (h3:(hd ts).k ≠ 43) (h:(lv m).comp ts = some (x,rest)) (he:endK (hd rest).k = true):(lv m).value ts = some (x,rest) := by
 refine value_no ?_ he
 show pNo _ _ _ = _
 unfold pNo; rw [if_neg h3]; exact h
theorem Sg.value {n:Nat} {ts:List Tok} {x:T} (h:Sg n ts x):Vl n ts x := fun m rest hm he=>by
 obtain ⟨h1,h2,h3,h4,h5,_,_⟩ := endK_none he
 exact value_no (h.no hm h1 h2 h3 h4 h5) he
theorem Vl.paren {n:Nat} {ts:List Tok} {x:T} (h:Vl n ts x):Sg (n + 1) (kt 7 :: (ts ++ [kt 8])) x := fun m rest hm hr=>by
 refine ⟨?_,by show (7:Nat) ≠ 16; decide,by show (7:Nat) ≠ 43; decide⟩
 cases m with
 | zero=>omega
 | succ m =>
   show pSingle (lv m).value _ = _
   unfold pSingle
   rw [if_pos (show (hd (kt 7 :: (ts ++ [kt 8]) ++ rest)).k = 7 from rfl)]
   have := h m (kt 8 :: rest) (by omega) rfl
   rw [show (kt 7 :: (ts ++ [kt 8]) ++ rest).tail = ts ++ kt 8 :: rest by simp,this]
   simp only
   rw [if_pos (show (hd (kt 8 :: rest)).k = 8 from rfl)]; rfl
theorem Sg.vNeg {n:Nat} {ts:List Tok} {x:T} (h:Sg n ts x):Vl (n + 1) (kt 16 :: ts) (tOne 2 x) := fun m rest hm he=>by
 obtain ⟨h1,h2,h3,h4,h5,ha,ho⟩ := endK_none he
 cases m with
 | zero=>omega
 | succ m =>
   refine value_comp (by show (16:Nat) ≠ 43; decide) ?_ he
   show pComp _ _ = _
   unfold pComp
   have hsg:(lv (m + 1)).signed (kt 16 :: ts ++ rest) = some (tOne 2 x,rest) := by
     show pSigned (lv m).signed _ _ = _
     unfold pSigned
     rw [if_pos (show (hd (kt 16 :: ts ++ rest)).k = 16 from rfl),show (kt 16 :: ts ++ rest).tail = ts ++ rest from rfl,h.signed (by omega) h1]
   have hsum:(lv (m + 1)).sum (kt 16 :: ts ++ rest) = some (tOne 2 x,rest) := chained_stop (chained_stop hsg h2) h3
   rw [hsum]; simp only; rw [h4]; simp only; rw [if_neg h5]
theorem Sg.name (s:List UInt8):Sg 0 [⟨1,0,s⟩] (tName [] s) := fun m rest _ hr=>by
 refine ⟨?_,by show (1:Nat) ≠ 16; decide,by show (1:Nat) ≠ 43; decide⟩
 show pSingle _ (⟨1,0,s⟩ :: rest) = _
 unfold pSingle
 have e:(⟨1,0,s⟩ :: rest:List Tok).tail = rest := rfl
 rw [e,if_neg hr]
 simp [hd]
theorem Sg.num (n:Int):Sg 0 [⟨2,n,[]⟩] (tLit 1 n []) := fun m rest _ hr=>by
 refine ⟨?_,by show (2:Nat) ≠ 16; decide,by show (2:Nat) ≠ 43; decide⟩
 show pSingle _ (⟨2,n,[]⟩ :: rest) = _
 simp [pSingle,hd]
theorem Sg.text (s:List UInt8):Sg 0 [⟨3,0,s⟩] (tLit 2 0 s) := fun m rest _ hr=>by
 refine ⟨?_,by show (3:Nat) ≠ 16; decide,by show (3:Nat) ≠ 43; decide⟩
 show pSingle _ (⟨3,0,s⟩ :: rest) = _
 simp [pSingle,hd]
theorem Sg.yes:Sg 0 [kt 46] (tLit 3 1 []) := fun m rest _ hr=>by
 refine ⟨?_,by show (46:Nat) ≠ 16; decide,by show (46:Nat) ≠ 43; decide⟩
 show pSingle _ (kt 46 :: rest) = _
 simp [pSingle,hd]
theorem Sg.not_:Sg 0 [kt 47] (tLit 3 0 []) := fun m rest _ hr=>by
 refine ⟨?_,by show (47:Nat) ≠ 16; decide,by show (47:Nat) ≠ 43; decide⟩
 show pSingle _ (kt 47 :: rest) = _
 simp [pSingle,hd]
theorem Sg.null:Sg 0 [kt 45] (tLit 0 0 []) := fun m rest _ hr=>by
 refine ⟨?_,by show (45:Nat) ≠ 16; decide,by show (45:Nat) ≠ 43; decide⟩
 show pSingle _ (kt 45 :: rest) = _
 simp [pSingle,hd]
end Pl
namespace Pl
open Go.Deep
def okT (t:T):Prop := Wf t /\ WfK t /\ sz t <= 600
def okW (t:T):Prop := t = .nil \/ okT t
structure okSt (s:St):Prop where
 kind:s.kind = 99 \/ s.kind = 105 \/ s.kind = 100 \/ s.kind = 117 \/ s.kind = 115
 len:s.items.length <= 600
 tname:s.table.length <= 10
 create:s.kind = 99 -> s.items.length <= 5 /\ ∀ i ∈ s.items,(i.type = 1 \/ i.type = 2 \/ i.type = 3) /\ i.name.length <= 10
 items:s.kind ≠ 99 -> ∀ i ∈ s.items,okT i.tree
 whr:okW s.whr
 klen:s.keys.length <= 600
 keys:∀ i ∈ s.keys,okT i.tree
 sources:s.kind = 115 -> ∃ a r,s.sources = a :: r /\ a.tree = .nil /\ a.mark = false /\ r.length <= 2 /\ ∀ i ∈ r,okT i.tree
 limit:s.limit = -1 \/ (0 <= s.limit /\ s.limit <= 9223372036854775807)
 offset:0 <= s.offset /\ s.offset <= 9223372036854775807
 some_:s.kind = 105 \/ s.kind = 99 -> s.items ≠ []
def GoodI (q:It -> Prop) (p:PI):Prop := ∀ ts x r,TokOk ts -> ts.length <= 600 -> p ts = some (x,r) -> q x /\ r.length < ts.length /\ TokOk r
theorem good_lt {p:P} (h:Good p) {ts r:List Tok} {x:T} (ht:TokOk ts) (hl:ts.length <= 600) (hp:p ts = some (x,r)):okT x /\ r.length < ts.length /\ TokOk r := by
 obtain ⟨h1,h2,h3,h4⟩ := h ts x r ht hp
 have:1 <= sz x := by
   cases x with
   | nil=>exact absurd h1 id
   | node=>simp [sz]
 exact ⟨⟨h1,h2,by omega⟩,by omega,h4⟩
theorem more_good {q:It -> Prop} {p:PI} (hp:GoodI q p):∀ (f:Nat) (acc:List It) (ts:List Tok) (l:List It) (r:List Tok),TokOk ts -> ts.length <= 600 -> (∀ i ∈ acc,q i) -> more p f acc ts = some (l,r) -> (∀ i ∈ l,q i) /\ l.length + r.length <= acc.length + ts.length /\ acc.length < l.length /\ r.length <= ts.length /\ TokOk r
 | 0,_,_,_,_,_,_,_,h=>by simp [more] at h
 | f + 1,acc,ts,l,r,ht,hl,ha,h=>by
   unfold more at h
   cases hz:p ts with
   | none=>rw [hz] at h; cases h
   | some z =>
     obtain ⟨x,r1⟩ := z
     rw [hz] at h
     obtain ⟨h1,h2,h3⟩ := hp ts x r1 ht hl hz
     have ha':∀ i ∈ acc ++ [x],q i := by
       intro i hi
       rcases List.mem_append.1 hi with hi | hi
       · exact ha i hi
       · simp at hi; subst hi; exact h1
     simp only at h
     split at h
     · have t1 := tail_le r1
       obtain ⟨a1,a2,a3,a4,a5⟩ := more_good hp f _ _ _ _ h3.tail (by omega) ha' h
       simp only [List.length_append,List.length_singleton] at a2 a3
       exact ⟨a1,by omega,by omega,by omega,a5⟩
     · simp at h
       obtain ⟨rfl,rfl⟩ := h
       exact ⟨ha',by simp; omega,by simp,by omega,h3⟩
theorem listed_good {q:It -> Prop} {p:PI} (hp:GoodI q p) {ts:List Tok} {l:List It} {r:List Tok} (ht:TokOk ts) (hl:ts.length <= 600) (h:listed p ts = some (l,r)):(∀ i ∈ l,q i) /\ l.length + r.length <= ts.length /\ l ≠ [] /\ r.length <= ts.length /\ TokOk r := by
 obtain ⟨a1,a2,a3,a4,a5⟩ := more_good hp _ [] ts l r ht hl (by simp) h
 simp at a2 a3
 exact ⟨a1,a2,by intro e; subst e; simp at a3,a4,a5⟩
theorem iValue_good:GoodI (fun i=>okT i.tree) iValue := by
 intro ts x r ht hl h
 unfold iValue at h
 split at h
 · cases h
 · rename_i y r1 hz
   simp at h; obtain ⟨rfl,rfl⟩ := h
   exact good_lt val_good ht hl hz
theorem iField_good:GoodI (fun i=>(i.type = 1 \/ i.type = 2 \/ i.type = 3) /\ i.name.length <= 10) iField := by
 intro ts x r ht hl h
 unfold iField at h
 split at h
 · rename_i h1
   split at h
   · cases h
   · rename_i t htt
     simp at h; obtain ⟨rfl,rfl⟩ := h
     refine ⟨⟨?_,(ht.hd.2.2 h1).1⟩,?_,ht.tail.tail⟩
     · unfold typeOf at htt
       simp only
       repeat' split at htt
       all_goals first
         | (cases htt; done)
         | (simp at htt; omega)
     · have := tail_lt h1 (by decide); have := tail_le ts.tail; omega
 · cases h
theorem iSet_good:GoodI (fun i=>okT i.tree) iSet := by
 intro ts x r ht hl h
 have t1 := tail_le ts
 have t2 := tail_le ts.tail
 unfold iSet at h
 split at h
 · split at h
   · split at h
     · cases h
     · rename_i y r1 hz
       simp at h; obtain ⟨rfl,rfl⟩ := h
       obtain ⟨a,b,c⟩ := good_lt val_good ht.tail.tail (by omega) hz
       exact ⟨a,by omega,c⟩
   · cases h
 · cases h
theorem iKey_good:GoodI (fun i=>okT i.tree) iKey := by
 intro ts x r ht hl h
 unfold iKey at h
 split at h
 · cases h
 · rename_i y r1 hz
   obtain ⟨a,b,c⟩ := good_lt val_good ht hl hz
   have t1 := tail_le r1
   split at h
   · simp at h; obtain ⟨rfl,rfl⟩ := h; exact ⟨a,by omega,c.tail⟩
   · simp at h; obtain ⟨rfl,rfl⟩ := h; exact ⟨a,b,c⟩
theorem iSource_good:GoodI (fun i=>i.tree = .nil /\ i.mark = false) iSource := by
 intro ts x r ht hl h
 have t2 := tail_le ts.tail
 have t3 := tail_le ts.tail.tail
 unfold iSource at h
 split at h
 · rename_i h1
   have t1 := tail_lt h1 (by decide)
   repeat' (split at h)
   all_goals first
     | (cases h; done)
     | (simp at h; obtain ⟨rfl,rfl⟩ := h; exact ⟨⟨rfl,rfl⟩,by omega,by first | exact ht.tail | exact ht.tail.tail.tail⟩)
 · cases h
theorem iJoin_good (left:Bool):GoodI (fun i=>okT i.tree) (iJoin left) := by
 intro ts x r ht hl h
 unfold iJoin at h
 split at h
 · cases h
 · rename_i it r1 hs
   obtain ⟨_,h2,h3⟩ := iSource_good ts it r1 ht hl hs
   have t1 := tail_le r1
   split at h
   · split at h
     · cases h
     · rename_i y r2 hv
       obtain ⟨a,b,c⟩ := good_lt val_good h3.tail (by omega) hv
       simp at h; obtain ⟨rfl,rfl⟩ := h
       exact ⟨a,by omega,c⟩
   · cases h
theorem joins_good:∀ (f:Nat) (acc:List It) (ts:List Tok) (l:List It) (r:List Tok),TokOk ts -> ts.length <= 600 -> joins f acc ts = some (l,r) -> (∃ m,l = acc ++ m /\ ∀ i ∈ m,okT i.tree) /\ r.length <= ts.length /\ TokOk r
 | 0,_,_,_,_,_,_,h=>by simp [joins] at h
 | f + 1,acc,ts,l,r,ht,hl,h=>by
   have t1 := tail_le ts
   have t2 := tail_le ts.tail
   have key:∀ (left:Bool) (u:List Tok),TokOk u -> u.length <= ts.length -> (match iJoin left u with | none=>none | some (it,r)=>joins f (acc ++ [it]) r) = some (l,r) -> (∃ m,l = acc ++ m /\ ∀ i ∈ m,okT i.tree) /\ r.length <= ts.length /\ TokOk r := by
     intro left u hu hul h
     cases hz:iJoin left u with
     | none=>rw [hz] at h; cases h
     | some z =>
       obtain ⟨it,r1⟩ := z
       rw [hz] at h
       obtain ⟨a,b,c⟩ := iJoin_good left u it r1 hu (by omega) hz
       obtain ⟨⟨m,rfl,hm⟩,h2,h3⟩ := joins_good f _ _ _ _ c (by omega) h
       refine ⟨⟨it :: m,by simp,?_⟩,by omega,h3⟩
       intro i hi
       rcases List.mem_cons.1 hi with rfl | hi
       · exact a
       · exact hm i hi
   unfold joins at h
   split at h
   · split at h
     · exact key true _ ht.tail.tail (by omega) h
     · cases h
   · split at h
     · exact key false _ ht.tail (by omega) h
     · simp at h; obtain ⟨rfl,rfl⟩ := h
       exact ⟨⟨[],by simp,by simp⟩,Nat.le_refl _,ht⟩
theorem sources_good {ts:List Tok} {l:List It} {r:List Tok} (ht:TokOk ts) (hl:ts.length <= 600) (h:pSources ts = some (l,r)):(∃ a m,l = a :: m /\ a.tree = .nil /\ a.mark = false /\ ∀ i ∈ m,okT i.tree) /\ r.length <= ts.length /\ TokOk r := by
 unfold pSources at h
 split at h
 · cases h
 · rename_i it r1 hs
   obtain ⟨h1,h2,h3⟩ := iSource_good ts it r1 ht hl hs
   obtain ⟨⟨m,rfl,hm⟩,h4,h5⟩ := joins_good _ _ _ _ _ h3 (by omega) h
   exact ⟨⟨it,m,by simp,h1.1,h1.2,hm⟩,by omega,h5⟩
theorem where_good {ts:List Tok} {x:T} {r:List Tok} (ht:TokOk ts) (hl:ts.length <= 600) (h:pWhere ts = some (x,r)):okW x /\ r.length <= ts.length /\ TokOk r := by
 have t1 := tail_le ts
 unfold pWhere at h
 split at h
 · obtain ⟨a,b,c⟩ := good_lt val_good ht.tail (by omega) h
   exact ⟨.inr a,by omega,c⟩
 · simp at h; obtain ⟨rfl,rfl⟩ := h; exact ⟨.inl rfl,Nat.le_refl _,ht⟩
theorem limit_good {ts:List Tok} {z:Int × Int} {r:List Tok} (ht:TokOk ts) (h:pLimit ts = some (z,r)):(z.1 = -1 \/ (0 <= z.1 /\ z.1 <= 9223372036854775807)) /\ (0 <= z.2 /\ z.2 <= 9223372036854775807) := by
 unfold pLimit at h
 split at h
 · split at h
   · rename_i h2
     have a := ht.tail.hd.1 h2
     split at h
     · split at h
       · rename_i h3
         have b := ht.tail.tail.tail.hd.1 h3
         simp at h; obtain ⟨rfl,rfl⟩ := h
         exact ⟨.inr a,b⟩
       · cases h
     · simp at h; obtain ⟨rfl,rfl⟩ := h
       exact ⟨.inr a,by simp⟩
   · cases h
 · simp at h; obtain ⟨rfl,rfl⟩ := h
   exact ⟨.inl rfl,by simp⟩
theorem keys_good {ts:List Tok} {l:List It} {r:List Tok} (ht:TokOk ts) (hl:ts.length <= 600) (h:pKeys ts = some (l,r)):(∀ i ∈ l,okT i.tree) /\ l.length <= 600 /\ TokOk r := by
 have t1 := tail_le ts
 have t2 := tail_le ts.tail
 unfold pKeys at h
 split at h
 · split at h
   · obtain ⟨a,b,c,d,e⟩ := listed_good iKey_good ht.tail.tail (by omega) h
     exact ⟨a,by omega,e⟩
   · cases h
 · simp at h; obtain ⟨rfl,rfl⟩ := h
   exact ⟨by simp,by simp,ht⟩
theorem query_good {ts:List Tok} {s:St} {r:List Tok} (ht:TokOk ts) (hl:ts.length <= 600) (h:pQuery ts = some (s,r)):okSt s := by
 have hdis:TokOk (pDis ts) /\ (pDis ts).length <= 600 := by
   have t1 := tail_le ts
   unfold pDis
   split
   · exact ⟨ht.tail,by omega⟩
   · exact ⟨ht,hl⟩
 cases hz:pTold (pDis ts) with
 | none=>rw [query_none hz] at h; cases h
 | some z =>
   obtain ⟨⟨all,items⟩,r1⟩ := z
   rw [query_some hz] at h
   have hi:(∀ i ∈ items,okT i.tree) /\ items.length <= 600 /\ r1.length <= 600 /\ TokOk r1 := by
     obtain ⟨hd1,hd2⟩ := hdis
     unfold pTold at hz
     split at hz
     · simp at hz; obtain ⟨⟨_,rfl⟩,rfl⟩ := hz
       have := tail_le (pDis ts)
       exact ⟨by simp,by simp,by omega,hd1.tail⟩
     · split at hz
       · cases hz
       · rename_i l r2 hl2
         simp at hz; obtain ⟨⟨_,rfl⟩,rfl⟩ := hz
         obtain ⟨a,b,c,d,e⟩ := listed_good iValue_good hd1 hd2 hl2
         exact ⟨a,by omega,by omega,e⟩
   obtain ⟨hi1,hi2,hi3,hi4⟩ := hi
   unfold pFrom at h
   split at h
   · have t1 := tail_le r1
     cases hs:pSources r1.tail with
     | none=>rw [hs] at h; cases h
     | some y =>
       obtain ⟨srcs,r3⟩ := y
       obtain ⟨⟨a,m,rfl,ha1,ha2,hm⟩,hr3,ht3⟩ := sources_good hi4.tail (by omega) hs
       rw [hs] at h
       simp only [pFrom1] at h
       split at h
       · cases h
       · rename_i hlen
         unfold pTail at h
         cases hw:pWhere r3 with
         | none=>rw [hw] at h; cases h
         | some y2 =>
           obtain ⟨wh,r4⟩ := y2
           obtain ⟨hwo,hr4,ht4⟩ := where_good ht3 (by omega) hw
           rw [hw] at h
           simp only [pTail1] at h
           cases hk:pKeys r4 with
           | none=>rw [hk] at h; cases h
           | some y3 =>
             obtain ⟨keys,r5⟩ := y3
             obtain ⟨hk1,hk2,ht5⟩ := keys_good ht4 (by omega) hk
             rw [hk] at h
             simp only [pTail2] at h
             unfold pLast at h
             cases hlm:pLimit r5 with
             | none=>rw [hlm] at h; cases h
             | some y4 =>
               obtain ⟨z4,r6⟩ := y4
               obtain ⟨g1,g2⟩ := limit_good ht5 hlm
               rw [hlm] at h
               simp at h
               obtain ⟨rfl,rfl⟩ := h
               refine ⟨by simp,hi2,by simp,by simp,fun _=>hi1,hwo,hk2,hk1,fun _=>⟨a,m,rfl,ha1,ha2,?_,hm⟩,g1,g2,by simp⟩
               simp at hlen; omega
   · cases h
theorem st0_good {k:Int} {nm:List UInt8} {its:List It} {wh:T} (hk:k = 99 \/ k = 105 \/ k = 100 \/ k = 117) (h1:its.length <= 600) (h2:nm.length <= 10) (h3:k = 99 -> its.length <= 5 /\ ∀ i ∈ its,(i.type = 1 \/ i.type = 2 \/ i.type = 3) /\ i.name.length <= 10) (h4:k ≠ 99 -> ∀ i ∈ its,okT i.tree) (h5:okW wh) (h6:k = 105 \/ k = 99 -> its ≠ []):okSt (st0 k nm its wh) := by
 unfold st0
 refine ⟨by rcases hk with h | h | h | h <;> simp [h],h1,h2,h3,h4,h5,by simp,by simp,fun h=>?_,by simp,by simp,h6⟩
 simp only at h
 omega
theorem inOpen_good {q:It -> Prop} {p:PI} (hp:GoodI q p) {ts:List Tok} {l:List It} {r:List Tok} (ht:TokOk ts) (hl:ts.length <= 600) (h:inOpen p ts = some (l,r)):(∀ i ∈ l,q i) /\ l.length <= 600 /\ l ≠ [] := by
 have t1 := tail_le ts
 unfold inOpen at h
 split at h
 · split at h
   · cases h
   · rename_i l1 r1 hz
     obtain ⟨a,b,c,d,e⟩ := listed_good hp ht.tail (by omega) hz
     split at h
     · simp at h; obtain ⟨rfl,rfl⟩ := h
       exact ⟨a,by omega,c⟩
     · cases h
 · cases h
theorem statement_good {ts:List Tok} {s:St} {r:List Tok} (ht:TokOk ts) (hl:ts.length <= 600) (h:pStatement ts = some (s,r)):okSt s := by
 have t1 := tail_le ts
 have t2 := tail_le ts.tail
 have t3 := tail_le ts.tail.tail
 have t4 := tail_le ts.tail.tail.tail
 unfold pStatement at h
 split at h
 · unfold pCreate at h
   split at h
   · split at h
     · rename_i h1
       split at h
       · cases h
       · rename_i l r1 hz
         obtain ⟨a,b,c⟩ := inOpen_good iField_good ht.tail.tail.tail (by omega) hz
         split at h
         · cases h
         · rename_i h5
           simp at h; obtain ⟨rfl,rfl⟩ := h
           exact st0_good (.inl rfl) b (ht.tail.tail.hd.2.2 h1).1 (fun _=>⟨by omega,a⟩) (fun h=>absurd rfl h) (.inl rfl) (fun _=>c)
     · cases h
   · cases h
 split at h
 · unfold pInsert at h
   split at h
   · split at h
     · rename_i h1
       split at h
       · split at h
         · cases h
         · rename_i l r1 hz
           have t5 := tail_le ts.tail.tail.tail.tail
           obtain ⟨a,b,c⟩ := inOpen_good iValue_good ht.tail.tail.tail.tail (by omega) hz
           simp at h; obtain ⟨rfl,rfl⟩ := h
           exact st0_good (.inr (.inl rfl)) b (ht.tail.tail.hd.2.2 h1).1 (fun h=>by simp at h) (fun _=>a) (.inl rfl) (fun _=>c)
       · cases h
     · cases h
   · cases h
 split at h
 · unfold pDelete at h
   split at h
   · split at h
     · rename_i h1
       split at h
       · cases h
       · rename_i wh r1 hz
         obtain ⟨a,b,c⟩ := where_good ht.tail.tail.tail (by omega) hz
         simp at h; obtain ⟨rfl,rfl⟩ := h
         exact st0_good (.inr (.inr (.inl rfl))) (by simp) (ht.tail.tail.hd.2.2 h1).1 (fun h=>by simp at h) (fun _=>by simp) a (fun h=>by omega)
     · cases h
   · cases h
 split at h
 · unfold pUpdate at h
   split at h
   · rename_i h1
     split at h
     · split at h
       · cases h
       · rename_i l r1 hz
         obtain ⟨a,b,c,d,e⟩ := listed_good iSet_good ht.tail.tail.tail (by omega) hz
         split at h
         · cases h
         · rename_i wh r2 hw
           obtain ⟨a2,b2,c2⟩ := where_good e (by omega) hw
           simp at h; obtain ⟨rfl,rfl⟩ := h
           exact st0_good (.inr (.inr (.inr rfl))) (by omega) (ht.tail.hd.2.2 h1).1 (fun h=>by simp at h) (fun _=>a) a2 (fun h=>by omega)
     · cases h
   · cases h
 split at h
 · exact query_good ht.tail (by omega) h
 · cases h
theorem parse_ok {l:List UInt8} {s:St} (h:pParse l = some s):okSt s := by
 unfold pParse at h
 split at h
 · cases h
 · rename_i hl
   have h1 := toks_ok _ l (Nat.lt_succ_self _)
   have h2 := toks_length _ l (Nat.lt_succ_self _)
   cases hz:pStatement (toks l) with
   | none=>rw [hz] at h; cases h
   | some z =>
     obtain ⟨s1,r⟩ := z
     rw [hz] at h
     simp only [pEnd] at h
     split at h
     · simp at h; subst h
       exact statement_good h1 (by omega) hz
     · cases h
end Pl
namespace Pl
structure Ord {α:Type} (le:α -> α -> Bool):Prop where
 total:∀ a b,le a b = true \/ le b a = true
 trans:∀ a b c,le a b = true -> le b c = true -> le a c = true
theorem Ord.refl {α:Type} {le:α -> α -> Bool} (h:Ord le) (a:α):le a a = true := (h.total a a).elim id id
theorem Ord.not {α:Type} {le:α -> α -> Bool} (h:Ord le) {a b:α} (hn:le a b = false):le b a = true := (h.total a b).elim (fun e=>by rw [hn] at e; cases e) id
def mrg {α:Type} (le:α -> α -> Bool):List α -> List α -> List α
 | [],ys=>ys
 | x :: xs,ys=>go x xs (mrg le xs) ys
where
 go (x:α) (xs:List α) (rest:List α -> List α):List α -> List α
   | []=>x :: xs
   | y :: ys=>if le x y = true then x :: rest (y :: ys) else y :: go x xs rest ys
theorem mrg_nil {α:Type} (le:α -> α -> Bool) (ys:List α):mrg le [] ys = ys := by rw [mrg]
theorem mrg_nil' {α:Type} (le:α -> α -> Bool) (xs:List α):mrg le xs [] = xs := by cases xs <;> simp [mrg,mrg.go]
theorem mrg_cons {α:Type} (le:α -> α -> Bool) (x y:α) (xs ys:List α):mrg le (x :: xs) (y :: ys) = if le x y = true then x :: mrg le xs (y :: ys) else y :: mrg le (x :: xs) ys := by
 rw [mrg,mrg.go]
 split
 · rfl
 · rw [mrg]
theorem ins_mrg {α:Type} {le:α -> α -> Bool} (h:Ord le) (x:α):∀ (as bs:List α),ins le x (mrg le as bs) = mrg le (ins le x as) bs
 | [],[]=>by simp [ins,mrg,mrg.go]
 | [],b :: bs=>by
   rw [mrg_nil,ins,ins,mrg_cons,mrg_nil]
   split
   · rfl
   · have := ins_mrg h x [] bs
     rw [mrg_nil,ins] at this; rw [this]
 | a :: as,[]=>by rw [mrg_nil',mrg_nil']
 | a :: as,b :: bs=>by
   by_cases hxa:le x a = true
   · have e1:ins le x (a :: as) = x :: a :: as := by rw [ins,if_pos hxa]
     rw [e1]
     by_cases hxb:le x b = true
     · rw [mrg_cons le x b (a :: as) bs,if_pos hxb,mrg_cons le a b as bs]
       split
       · rw [ins,if_pos hxa]
       · rw [ins,if_pos hxb]
     · have hab:¬ le a b = true := fun hab=>hxb (h.trans _ _ _ hxa hab)
       rw [mrg_cons,if_neg hab,ins,if_neg hxb,mrg_cons (x := x),if_neg hxb,ins_mrg h x (a :: as) bs,e1]
   · have e1:ins le x (a :: as) = a :: ins le x as := by rw [ins,if_neg hxa]
     have hax := h.not (Bool.eq_false_iff.2 hxa)
     rw [e1]
     by_cases hab:le a b = true
     · rw [mrg_cons,if_pos hab,ins,if_neg hxa,ins_mrg h x as (b :: bs),mrg_cons,if_pos hab]
     · have hxb:¬ le x b = true := fun hxb=>hab (h.trans _ _ _ hax hxb)
       rw [mrg_cons,if_neg hab,ins,if_neg hxb,ins_mrg h x (a :: as) bs,e1,mrg_cons,if_neg hab]
theorem isort_append {α:Type} {le:α -> α -> Bool} (h:Ord le):∀ (xs ys:List α),isort le (xs ++ ys) = mrg le (isort le xs) (isort le ys)
 | [],ys=>by rw [List.nil_append,isort,mrg_nil]
 | x :: xs,ys=>by rw [List.cons_append,isort,isort_append h xs ys,ins_mrg h,isort]
theorem mrg_split {α:Type} {le:α -> α -> Bool}:∀ (x1 y1 x2 y2:List α),(∀ x ∈ x1,∀ y ∈ y2,le x y = true) -> (∀ y ∈ y1,∀ x ∈ x2,le x y = false) -> mrg le (x1 ++ x2) (y1 ++ y2) = mrg le x1 y1 ++ mrg le x2 y2
 | [],[],x2,y2,_,_=>by rw [mrg_nil]; rfl
 | [],y :: y1,x2,y2,h1,h2=>by
   have ih := mrg_split [] y1 x2 y2 h1 (fun y' hy' => h2 y' (by simp [hy']))
   rw [mrg_nil] at ih ⊢
   cases x2 with
   | nil=>simp [mrg_nil]
   | cons x x2 =>
     rw [List.nil_append,List.cons_append,mrg_cons,if_neg (by simp [h2 y (by simp) x (by simp)])]
     rw [List.nil_append] at ih
     rw [ih]; rfl
 | x :: x1,[],x2,y2,h1,h2=>by
   have ih := mrg_split x1 [] x2 y2 (fun x' hx' => h1 x' (by simp [hx'])) h2
   rw [mrg_nil'] at ih ⊢
   rw [List.nil_append] at ih ⊢
   cases y2 with
   | nil=>simp [mrg_nil']
   | cons y y2 =>
     rw [List.cons_append,mrg_cons,if_pos (h1 x (by simp) y (by simp)),ih]; rfl
 | x :: x1,y :: y1,x2,y2,h1,h2=>by
   rw [List.cons_append,List.cons_append,mrg_cons,mrg_cons]
   split
   · have ih := mrg_split x1 (y :: y1) x2 y2 (fun x' hx' => h1 x' (by simp [hx'])) h2
     rw [<- List.cons_append,ih]; rfl
   · have ih := mrg_split (x :: x1) y1 x2 y2 h1 (fun y' hy' => h2 y' (by simp [hy']))
     rw [<- List.cons_append,ih]; rfl
theorem ins_mem {α:Type} {le:α -> α -> Bool} {x y:α}:∀ {l:List α},y ∈ ins le x l -> y = x \/ y ∈ l
 | [],h=>by simp [ins] at h; exact .inl h
 | z :: l,h=>by
   unfold ins at h
   split at h
   · simpa using h
   · rcases List.mem_cons.1 h with h | h
     · right; simp [h]
     · rcases ins_mem h with h | h
       · exact .inl h
       · right; simp [h]
theorem ins_len {α:Type} (le:α -> α -> Bool) (x:α):∀ (l:List α),(ins le x l).length = l.length + 1
 | []=>rfl
 | z :: l=>by
   unfold ins; split
   · simp
   · simp [ins_len le x l]
theorem isort_len {α:Type} (le:α -> α -> Bool):∀ (l:List α),(isort le l).length = l.length
 | []=>rfl
 | x :: l=>by rw [isort,ins_len,isort_len le l]; rfl
theorem isort_mem {α:Type} {le:α -> α -> Bool} {y:α}:∀ {l:List α},y ∈ isort le l -> y ∈ l
 | [],h=>by simp [isort] at h
 | x :: l,h=>by
   rw [isort] at h
   rcases ins_mem h with h | h
   · simp [h]
   · have := isort_mem h; simp [this]
theorem ins_sorted {α:Type} {le:α -> α -> Bool} (h:Ord le) (x:α):∀ {l:List α},l.Pairwise (fun a b=>le a b = true) -> (ins le x l).Pairwise (fun a b=>le a b = true)
 | [],_=>by simp [ins]
 | z :: l,hp=>by
   have hz := List.pairwise_cons.1 hp
   unfold ins; split
   · rename_i hxz
     refine List.pairwise_cons.2 ⟨fun b hb=>?_,hp⟩
     rcases List.mem_cons.1 hb with rfl | hb
     · exact hxz
     · exact h.trans _ _ _ hxz (hz.1 b hb)
   · rename_i hxz
     refine List.pairwise_cons.2 ⟨fun b hb=>?_,ins_sorted h x hz.2⟩
     rcases ins_mem hb with rfl | hb
     · exact h.not (Bool.eq_false_iff.2 hxz)
     · exact hz.1 b hb
theorem isort_sorted {α:Type} {le:α -> α -> Bool} (h:Ord le):∀ (l:List α),(isort le l).Pairwise (fun a b=>le a b = true)
 | []=>List.Pairwise.nil
 | x :: l=>by rw [isort]; exact ins_sorted h x (isort_sorted h l)
theorem mrg_last {α:Type} {le:α -> α -> Bool} {p q:List α} {x:α} (hp:∀ y ∈ p,le y x = true) (hq:∀ y ∈ q,le y x = false):mrg le (p ++ q) [x] = p ++ x :: q := by
 have := mrg_split p [] q [x] (fun a ha y hy=>by simp at hy; subst hy; exact hp a ha) (fun y hy=>by cases hy) (le := le)
 rw [List.nil_append,mrg_nil'] at this
 rw [this]
 congr 1
 cases q with
 | nil=>rw [mrg_nil]
 | cons y q=>rw [mrg_cons,if_neg (by simp [hq y (by simp)]),mrg_nil']
end Pl
namespace Pl
open Go.Deep
structure Tri {α:Type} (c:α -> α -> Int):Prop where
 anti:∀ a b,c b a = - c a b
 trans:∀ a b d,c a b <= 0 -> c b d <= 0 -> c a d <= 0
theorem Tri.ord {α:Type} {c:α -> α -> Int} (h:Tri c):Ord (fun a b=>decide (c a b <= 0)) :=
 ⟨fun a b=>by have := h.anti a b; simp; omega,fun a b d h1 h2=>by simp at *; exact h.trans a b d h1 h2⟩
theorem Tri.zero_left {α:Type} {c:α -> α -> Int} (h:Tri c) {a b:α} (d:α) (h0:c a b = 0):(c a d <= 0 ↔ c b d <= 0) /\ (c d a <= 0 ↔ c d b <= 0) := by
 have h1 := h.anti a b
 exact ⟨⟨fun k=>h.trans b a d (by omega) k,fun k=>h.trans a b d (by omega) k⟩,⟨fun k=>h.trans d a b k (by omega),fun k=>h.trans d b a k (by omega)⟩⟩
theorem tri_int:Tri Lib.compareInt := by
 refine ⟨fun a b=>?_,fun a b d h1 h2=>?_⟩
 · unfold Lib.compareInt; repeat' split
   all_goals omega
 · unfold Lib.compareInt at *
   repeat' (split at h1)
   all_goals
     repeat' (split at h2)
     all_goals
       repeat' split
       all_goals omega
theorem u8_lt {a b:UInt8}:a < b ↔ a.toNat < b.toNat := Iff.rfl
theorem bytes_anti:∀ (a b:List UInt8),Lib.compareBytes b a = - Lib.compareBytes a b
 | [],[]=>rfl
 | [],_ :: _=>rfl
 | _ :: _,[]=>rfl
 | x :: a,y :: b=>by
   unfold Lib.compareBytes
   simp only [u8_lt]
   have ih := bytes_anti a b
   repeat' split
   all_goals omega
theorem bytes_trans:∀ (a b d:List UInt8),Lib.compareBytes a b <= 0 -> Lib.compareBytes b d <= 0 -> Lib.compareBytes a d <= 0
 | [],_,[],_,_=>by simp [Lib.compareBytes]
 | [],_,_ :: _,_,_=>by simp [Lib.compareBytes]
 | _ :: _,[],_,h,_=>by simp [Lib.compareBytes] at h
 | _ :: _,_ :: _,[],_,h=>by simp [Lib.compareBytes] at h
 | x :: a,y :: b,z :: d,h1,h2=>by
   unfold Lib.compareBytes at *
   simp only [u8_lt] at *
   have ih := bytes_trans a b d
   repeat' (split at h1)
   all_goals
     repeat' (split at h2)
     all_goals
       repeat' split
       all_goals first
         | omega
         | exact ih h1 h2
def ordT (a b:V):Int := if a.kind = b.kind then (if a.kind = 0 then 0 else if a.kind = 2 then Lib.compareBytes a.s b.s else Lib.compareInt a.n b.n) else Lib.compareInt a.kind b.kind
theorem cmpI_zero {x y:Int}:Lib.compareInt x y = 0 ↔ x = y := by
 unfold Lib.compareInt; repeat' split
 all_goals omega
theorem cmpI_le {x y:Int}:Lib.compareInt x y <= 0 ↔ x <= y := by
 unfold Lib.compareInt; repeat' split
 all_goals omega
theorem tri_ordT:Tri ordT := by
 refine ⟨fun a b=>?_,fun a b d h1 h2=>?_⟩
 · unfold ordT
   by_cases h:a.kind = b.kind
   · rw [if_pos h,if_pos h.symm,<- h]
     split
     · rfl
     · split
       · exact bytes_anti _ _
       · exact tri_int.anti _ _
   · rw [if_neg h,if_neg (fun e=>h e.symm)]; exact tri_int.anti _ _
 · unfold ordT at *
   by_cases hab:a.kind = b.kind
   · rw [if_pos hab] at h1
     by_cases hbd:b.kind = d.kind
     · rw [if_pos hbd] at h2
       rw [if_pos (hab.trans hbd)]
       rw [<- hab] at h2
       split
       · exact Int.le_refl 0
       · rename_i h0
         rw [if_neg h0] at h1 h2
         split
         · rename_i h2'
           rw [if_pos h2'] at h1 h2
           exact bytes_trans _ _ _ h1 h2
         · rename_i h2'
           rw [if_neg h2'] at h1 h2
           exact tri_int.trans _ _ _ h1 h2
     · rw [if_neg hbd] at h2
       rw [if_neg (by rw [hab]; exact hbd),hab]; exact h2
   · rw [if_neg hab,cmpI_le] at h1
     by_cases hbd:b.kind = d.kind
     · rw [if_neg (by rw [<- hbd]; exact hab),<- hbd,cmpI_le]; exact h1
     · rw [if_neg hbd,cmpI_le] at h2
       rw [if_neg (by omega),cmpI_le]; omega
def ofType (ty:Int) (v:V):Prop := v.kind = 0 \/ v.kind = ty
theorem order_ordT {ty:Int} {a b:V} (ha:ofType ty a) (hb:ofType ty b):order a b = ordT a b := by
 unfold order ordT V.miss
 by_cases h:a.kind = b.kind
 · rw [if_pos h]
   by_cases h0:a.kind = 0
   · rw [if_pos h0,if_pos (by simp [h0]),cmpI_zero.2 h]
   · rw [if_neg h0,if_neg (by simp [h0,<- h])]
 · rw [if_neg h]
   rw [if_pos (by unfold ofType at *; simp; omega)]
def cmpT:List Bool -> List V -> List V -> Int
 | [],_,_=>0
 | d :: ds,as,bs=>if ordT (as.headD nul) (bs.headD nul) = 0 then cmpT ds as.tail bs.tail else if d = true then - ordT (as.headD nul) (bs.headD nul) else ordT (as.headD nul) (bs.headD nul)
theorem tri_cmpT:∀ ds,Tri (cmpT ds)
 | []=>⟨fun _ _=>rfl,fun _ _ _ _ _=>Int.le_refl 0⟩
 | d :: ds=>by
   have ih := tri_cmpT ds
   refine ⟨fun a b=>?_,fun a b e h1 h2=>?_⟩
   · unfold cmpT
     have := tri_ordT.anti (a.headD nul) (b.headD nul)
     have := ih.anti a.tail b.tail
     repeat' split
     all_goals omega
   · unfold cmpT at *
     have t1 := Decidable.not_or_of_imp (fun h:_ /\ _=>tri_ordT.trans (a.headD nul) (b.headD nul) (e.headD nul) h.1 h.2)
     have t2 := Decidable.not_or_of_imp (fun h:_ /\ _=>tri_ordT.trans (e.headD nul) (b.headD nul) (a.headD nul) h.1 h.2)
     have a1 := tri_ordT.anti (a.headD nul) (b.headD nul)
     have a2 := tri_ordT.anti (b.headD nul) (e.headD nul)
     have a3 := tri_ordT.anti (a.headD nul) (e.headD nul)
     have ih' := Decidable.not_or_of_imp (fun h:_ /\ _=>ih.trans a.tail b.tail e.tail h.1 h.2)
     have z1 := Decidable.not_or_of_imp (fun h0:ordT (a.headD nul) (b.headD nul) = 0=>tri_ordT.zero_left (e.headD nul) h0)
     have z2 := Decidable.not_or_of_imp (fun h0:ordT (b.headD nul) (e.headD nul) = 0=>tri_ordT.zero_left (a.headD nul) h0)
     have z3 := Decidable.not_or_of_imp (fun h0:ordT (a.headD nul) (e.headD nul) = 0=>tri_ordT.zero_left (b.headD nul) h0)
     generalize ordT (a.headD nul) (b.headD nul) = x at *
     generalize ordT (b.headD nul) (a.headD nul) = x' at *
     generalize ordT (b.headD nul) (e.headD nul) = y at *
     generalize ordT (e.headD nul) (b.headD nul) = y' at *
     generalize ordT (a.headD nul) (e.headD nul) = z at *
     generalize ordT (e.headD nul) (a.headD nul) = z' at *
     generalize cmpT ds a.tail b.tail = p at *
     generalize cmpT ds b.tail e.tail = q at *
     generalize cmpT ds a.tail e.tail = r at *
     clear ih
     split at h1 <;> split at h2 <;> split <;> (try split at h1) <;> (try split at h2) <;> (try split) <;> first | contradiction | omega
def ranksOf (tys:List Int) (r:List V):Prop := r.length = tys.length /\ ∀ (i:Nat) (v:V) (ty:Int),r[i]? = some v -> tys[i]? = some ty -> ofType ty v
theorem cmp_cmpT:∀ (tys:List Int) (ds:List Bool) (a b:List V),ds.length = tys.length -> ranksOf tys a -> ranksOf tys b -> cmpRanks a b ds = cmpT ds a b
 | [],[],a,b,_,_,_=>by cases a <;> cases b <;> rfl
 | [],d :: ds,_,_,h,_,_=>by simp at h
 | ty :: tys,[],_,_,h,_,_=>by simp at h
 | ty :: tys,d :: ds,a,b,h,ha,hb=>by
   cases a with
   | nil=>exact absurd ha.1 (by simp)
   | cons x a =>
     cases b with
     | nil=>exact absurd hb.1 (by simp)
     | cons y b =>
       have hx := ha.2 0 x ty rfl rfl
       have hy := hb.2 0 y ty rfl rfl
       have ha':ranksOf tys a := ⟨by simpa using ha.1,fun i v t h1 h2=>ha.2 (i + 1) v t (by simpa using h1) (by simpa using h2)⟩
       have hb':ranksOf tys b := ⟨by simpa using hb.1,fun i v t h1 h2=>hb.2 (i + 1) v t (by simpa using h1) (by simpa using h2)⟩
       have ih := cmp_cmpT tys ds a b (by simpa using h) ha' hb'
       unfold cmpRanks cmpT
       simp only [List.headD_cons,List.tail_cons]
       rw [order_ordT hx hy,ih]
       rfl
end Pl
namespace Pl
set_option linter.unusedVariables false
open Go.Deep
def okV (v:V):Prop := (v.kind = 0 /\ v.n = 0 /\ v.s = []) \/ (v.kind = 1 /\ v.s = [] /\ -9223372036854775808 <= v.n /\ v.n <= 9223372036854775807) \/ (v.kind = 2 /\ v.n = 0 /\ v.s.length <= 40) \/ (v.kind = 3 /\ (v.n = 0 \/ v.n = 1) /\ v.s = [])
theorem okV.range {v:V} (h:okV v) : -9223372036854775808 <= v.n /\ v.n <= 9223372036854775807 := by
 rcases h with h | h | h | h <;> omega
theorem okV.kind {v:V} (h:okV v):0 <= v.kind /\ v.kind <= 3 := by
 rcases h with h | h | h | h <;> omega
theorem ok_nul:okV nul := .inl ⟨rfl,rfl,rfl⟩
theorem ok_tru (b:Bool):okV (tru b) := by cases b <;> exact .inr (.inr (.inr ⟨rfl,by simp [tru],rfl⟩))
theorem ok_ranged {n:Int} {v:V} (h:ranged n = .ok v):okV v /\ v.kind = 1 := by
 unfold ranged at h
 split at h
 · cases h; exact ⟨.inr (.inl ⟨rfl,rfl,by assumption⟩),rfl⟩
 · cases h
theorem ok_reckon {op:Nat} {a b:Int} {v:V} (ha : -9223372036854775808 <= a /\ a <= 9223372036854775807) (h:reckon op a b = .ok v):okV v /\ v.kind = 1 := by
 unfold reckon at h
 repeat' (split at h)
 all_goals first
   | (cases h; done)
   | exact ok_ranged h
   | (cases h
      refine ⟨.inr (.inl ⟨rfl,rfl,?_⟩),rfl⟩
      show -9223372036854775808 <= Int.tmod a b /\ Int.tmod a b <= 9223372036854775807
      have h1:(Int.tmod a b).natAbs <= a.natAbs := by rw [Int.natAbs_tmod]; exact Nat.mod_le _ _
      have h2:0 <= a -> 0 <= Int.tmod a b := fun h=>Int.tmod_nonneg b h
      have h3:a <= 0 -> Int.tmod a b <= 0 := fun h=>by
        have := Int.tmod_nonneg (a := -a) b (by omega)
        rw [Int.neg_tmod] at this; omega
      rcases Int.le_total 0 a with h | h
      · have := h2 h; omega
      · have := h3 h; omega)
theorem ok_ap1 {op:Nat} {v u:V} (hv:okV v) (h:ap1 op v = .ok u):okV u := by
 unfold ap1 at h
 split at h
 · unfold neg at h
   split at h
   · cases h; exact hv
   · exact (ok_ranged h).1
 · split at h
   · cases h
     unfold opp; split
     · exact hv
     · exact ok_tru _
   · cases h; exact ok_tru _
theorem ok_ap2 {op:Nat} {l r u:V} (hl:okV l) (hr:okV r) (h:ap2 op l r = .ok u):okV u := by
 unfold ap2 at h
 split at h
 · cases h
   unfold joined; split <;> assumption
 · split at h
   · cases h; exact ok_nul
   · split at h
     · exact (ok_reckon hl.range h).1
     · cases h; exact ok_tru _
def okRow (row:List V):Prop := ∀ v ∈ row,okV v
theorem getD_ok {row:List V} (h:okRow row) (i:Nat):okV (row.getD i nul) := by
 rw [List.getD_eq_getElem?_getD]
 cases hi:row[i]? with
 | none=>exact ok_nul
 | some v=>exact h v (List.mem_of_getElem? hi)
theorem ev_ok (cols:List Col) {row:List V} (hrow:okRow row):∀ {t:T} {v:V},WfK t -> ev cols row t = .ok v -> okV v
 | .nil,v,_,h=>by cases h; exact ok_nul
 | .node a1 a2 p l r,v,hk,h=>by
   obtain ⟨k0,kl,kr⟩ := hk
   unfold ev at h
   split at h
   · rename_i h0
     cases h
     have := k0 h0
     unfold okV litOf
     simp only
     rcases this with h | h | h | h
     · exact .inl h
     · exact .inr (.inl ⟨h.1,h.2.1,by omega,h.2.2.2⟩)
     · exact .inr (.inr (.inl h))
     · exact .inr (.inr (.inr h))
   · split at h
     · cases h; exact getD_ok hrow _
     · cases hl:ev cols row l with
       | error e=>rw [hl] at h; cases h
       | ok a =>
         have ha := ev_ok cols hrow kl hl
         rw [hl] at h; simp only at h
         split at h
         · exact ok_ap1 ha h
         · split at h
           · cases h; exact ha
           · cases hr:ev cols row r with
             | error e=>rw [hr] at h; cases h
             | ok b =>
               rw [hr] at h; simp only at h
               exact ok_ap2 ha (ev_ok cols hrow kr hr) h
def rowOf (cols:List Col) (row:List V):Prop := ∀ (i:Nat),ofType (typeAt cols i) (row.getD i nul)
theorem fit_ok {op:Nat} {a b ty:Int} (h:fit op a b = .ok ty):ty = gives op /\ alike a (takes op) = true /\ alike b (takes op) = true /\ alike a b = true := by
 unfold fit at h
 split at h
 · rename_i hc
   cases h
   simp at hc
   exact ⟨rfl,hc.1.1,hc.1.2,hc.2⟩
 · cases h
theorem ap1_type {op:Nat} {v u:V} {a:Int} (h2:2 <= op) (h5:op <= 5) (hv:ofType a v) (ha:alike a (takes op) = true) (h:ap1 op v = .ok u):ofType (gives op) u := by
 unfold ap1 at h
 split at h
 · rename_i e; subst e
   unfold neg at h
   split at h
   · rename_i hm; cases h; left; simpa [V.miss] using hm
   · right; exact (ok_ranged h).2
 · have hg:gives op = 3 := by unfold gives; rw [if_neg (by omega)]
   rw [hg]
   split at h
   · cases h
     unfold opp; split
     · rename_i hm; left; simpa [V.miss] using hm
     · right; rfl
   · cases h; right; rfl
theorem ap2_type {op:Nat} {l r u:V} {a b:Int} (h6:6 <= op) (h18:op <= 18) (hl:okV l) (hr:okV r) (tl:ofType a l) (tr:ofType b r) (ha:alike a (takes op) = true) (hb:alike b (takes op) = true) (h:ap2 op l r = .ok u):ofType (gives op) u := by
 unfold ap2 at h
 split at h
 · rename_i h17
   cases h
   have hg:gives op = 3 := by unfold gives; rw [if_neg (by omega)]
   have ht:takes op = 3 := by unfold takes; rw [if_pos (by omega)]
   rw [hg]
   rw [ht] at ha hb
   simp [alike] at ha hb
   unfold joined; split
   · unfold ofType at *; omega
   · unfold ofType at *; omega
 · split at h
   · cases h; left; rfl
   · split at h
     · have hg:gives op = 1 := by unfold gives; rw [if_pos (by omega)]
       rw [hg]; right; exact (ok_reckon hl.range h).2
     · have hg:gives op = 3 := by unfold gives; rw [if_neg (by omega)]
       rw [hg]; cases h; right; rfl
theorem ev_type {cols:List Col} {row:List V} (hrow:okRow row) (hty:rowOf cols row):∀ {t:T} {v:V} {ty:Int},Wf t -> WfK t -> tc cols t = .ok ty -> ev cols row t = .ok v -> ofType ty v
 | .nil,_,_,hw,_,_,_=>absurd hw id
 | .node a1 a2 p l r,v,ty,hw,hk,ht,h=>by
   obtain ⟨hop,_,hwr,hwl⟩ := hw
   obtain ⟨_,kl,kr⟩ := hk
   unfold ev at h
   unfold tc at ht
   split at h
   · rename_i h0
     rw [if_pos h0] at ht
     cases h; cases ht
     right; rfl
   · rename_i h0
     rw [if_neg h0] at ht
     split at h
     · rename_i h1
       rw [if_pos h1] at ht
       cases h
       unfold idx
       cases hc:colAt cols p.src p.name with
       | none=>rw [hc] at ht; cases ht
       | some i=>rw [hc] at ht; cases ht; exact hty i
     · rename_i h1
       rw [if_neg h1] at ht
       cases tl:tc cols l with
       | error e=>rw [tl] at ht; cases ht
       | ok a =>
         rw [tl] at ht; simp only at ht
         cases hl:ev cols row l with
         | error e=>rw [hl] at h; cases h
         | ok x =>
           rw [hl] at h; simp only at h
           have hx := ev_type hrow hty (hwl (by omega)) kl tl hl
           split at h
           · rename_i h5
             rw [if_pos h5] at ht
             obtain ⟨rfl,f1,_,_⟩ := fit_ok ht
             exact ap1_type (by omega) h5 hx f1 h
           · rename_i h5
             rw [if_neg h5] at ht
             cases tr:tc cols r with
             | error e=>rw [tr] at ht; cases ht
             | ok b =>
               rw [tr] at ht; simp only at ht
               obtain ⟨rfl,f1,f2,f3⟩ := fit_ok ht
               split at h
               · rename_i h17
                 cases h
                 have hg:gives p.op = 3 := by unfold gives; rw [if_neg (by omega)]
                 rw [hg,h17.2]; right; rfl
               · cases hr:ev cols row r with
                 | error e=>rw [hr] at h; cases h
                 | ok y =>
                   rw [hr] at h; simp only at h
                   exact ap2_type (by omega) hop (ev_ok cols hrow kl hl) (ev_ok cols hrow kr hr) hx (ev_type hrow hty (hwr (by omega)) kr tr hr) f1 f2 h
end Pl
namespace Pl
theorem more_ne {p:PI}:∀ {f:Nat} {acc:List It} {ts:List Tok} {l:List It} {r:List Tok},more p f acc ts = some (l,r) -> l ≠ []
 | 0,_,_,_,_,h=>by simp [more] at h
 | f + 1,acc,ts,l,r,h=>by
   rw [more] at h
   cases hp:p ts with
   | none=>rw [hp] at h; cases h
   | some z =>
     obtain ⟨x,r'⟩ := z
     rw [hp] at h
     simp only at h
     split at h
     · exact more_ne h
     · cases h; simp
theorem told_vals {ts r:List Tok} {all:Bool} {items:List It} (h:pTold ts = some ((all,items),r)):all = false -> items ≠ [] := by
 unfold pTold at h
 split at h
 · cases h; intro e; cases e
 · cases hl:listed iValue ts with
   | none=>rw [hl] at h; cases h
   | some z =>
     rw [hl] at h
     obtain ⟨l,r'⟩ := z
     cases h
     intro _
     exact more_ne hl
theorem from_vals {dis all:Bool} {items:List It} {ts r:List Tok} {s:St} (h:pFrom dis all items ts = some (s,r)):s.all = all /\ s.items = items := by
 unfold pFrom at h
 split at h
 · cases hs:pSources ts.tail with
   | none=>rw [hs] at h; cases h
   | some z =>
     rw [hs] at h
     simp only [pFrom1] at h
     split at h
     · cases h
     · unfold pTail at h
       cases hw:pWhere z.2 with
       | none=>rw [hw] at h; cases h
       | some y =>
         rw [hw] at h
         simp only [pTail1] at h
         cases hk:pKeys y.2 with
         | none=>rw [hk] at h; cases h
         | some q =>
           rw [hk] at h
           simp only [pTail2,pLast] at h
           cases hlm:pLimit q.2 with
           | none=>rw [hlm] at h; cases h
           | some m=>rw [hlm] at h; cases h; exact ⟨rfl,rfl⟩
 · cases h
theorem statement_vals {ts r:List Tok} {s:St} (h:pStatement ts = some (s,r)):s.kind = 115 -> s.all = false -> s.items ≠ [] := by
 intro hk
 unfold pStatement at h
 split at h
 · exfalso
   unfold pCreate at h
   repeat' split at h
   all_goals (first | cases h)
   all_goals (simp [st0] at hk)
 · split at h
   · exfalso
     unfold pInsert at h
     repeat' split at h
     all_goals (first | cases h)
     all_goals (simp [st0] at hk)
   · split at h
     · exfalso
       unfold pDelete at h
       repeat' split at h
       all_goals (first | cases h)
       all_goals (simp [st0] at hk)
     · split at h
       · exfalso
         unfold pUpdate at h
         repeat' split at h
         all_goals (first | cases h)
         all_goals (simp [st0] at hk)
       · split at h
         · unfold pQuery at h
           cases ht:pTold (pDis ts.tail) with
           | none=>rw [ht] at h; cases h
           | some z =>
             obtain ⟨⟨all,items⟩,r'⟩ := z
             rw [ht] at h
             obtain ⟨h1,h2⟩ := from_vals h
             rw [h1,h2]
             exact told_vals ht
         · cases h
theorem parse_vals {l:List UInt8} {s:St} (h:pParse l = some s):s.kind = 115 -> s.all = false -> s.items ≠ [] := by
 unfold pParse at h
 split at h
 · cases h
 · cases hz:pStatement (toks l) with
   | none=>rw [hz] at h; cases h
   | some z =>
     obtain ⟨s1,r⟩ := z
     rw [hz] at h
     simp only [pEnd] at h
     split at h
     · simp at h; subst h
       exact statement_vals hz
     · cases h
end Pl
end Go.Proofs.YtojdpjpldokjmaaGreatDoor
