/- Values of a statement, read from tokens: plainly. Nothing of the program in it. -/
import Derived.Test.YtojdpjpldokjmaaGreatDoorF00
import Derived.Deep.Trees
set_option maxHeartbeats 60000000
set_option maxRecDepth 100000
namespace Go.Proofs.YtojdpjpldokjmaaGreatDoor
namespace Pl
open Go.Deep
structure Pay where
 op:Nat
 kind:Int
 n:Int
 s:List UInt8
 src:List UInt8
 name:List UInt8
abbrev T:=BT Pay
def tLit (kind n:Int)(s:List UInt8):T:=.node 0 0 ⟨0,kind,n,s,[],[]⟩ .nil .nil
def tName (src name:List UInt8):T:=.node 0 0 ⟨1,0,0,[],src,name⟩ .nil .nil
def tOne (op:Nat)(x:T):T:=.node 0 0 ⟨op,0,0,[],[],[]⟩ x .nil
def tTwo (op:Nat)(x y:T):T:=.node 0 0 ⟨op,0,0,[],[],[]⟩ x y
abbrev P:=List Tok->Option (T × List Tok)
def orOp (k:Nat):Option Nat:=if k=42 then some 18 else none
def andOp (k:Nat):Option Nat:=if k=41 then some 17 else none
def sumOp (k:Nat):Option Nat:=if k=15 then some 6 else if k=16 then some 7 else none
def prodOp (k:Nat):Option Nat:=if k=17 then some 8 else if k=18 then some 9 else if k=19 then some 10 else none
def cmpOp (k:Nat):Option Nat:=if k=12 then some 11 else if k=4 then some 12 else if k=13 then some 13 else if k=5 then some 14 else if k=14 then some 15 else if k=6 then some 16 else none
def chain (part:P)(op:Nat->Option Nat):Nat->T->List Tok->Option (T × List Tok)
 | 0,_,_=>none
 | f+1,x,ts=>match op (hd ts).k with
  | none=>some (x,ts)
  | some o=>match part ts.tail with
   | none=>none
   | some (y,r)=>chain part op f (tTwo o x y) r
def chained (part:P)(op:Nat->Option Nat):P:=fun ts=>match part ts with
 | none=>none
 | some (x,r)=>chain part op (r.length+1) x r
def pSingle (val:P):P:=fun ts =>
 if (hd ts).k=7 then match val ts.tail with
  | none=>none
  | some (x,r)=>if (hd r).k=8 then some (x,r.tail) else none
 else if (hd ts).k=46 then some (tLit 3 1 [],ts.tail)
 else if (hd ts).k=47 then some (tLit 3 0 [],ts.tail)
 else if (hd ts).k=45 then some (tLit 0 0 [],ts.tail)
 else if (hd ts).k=2 then some (tLit 1 (hd ts).n [],ts.tail)
 else if (hd ts).k=3 then some (tLit 2 0 (hd ts).s,ts.tail)
 else if (hd ts).k=1 then
  if (hd ts.tail).k=10 then
   if (hd ts.tail.tail).k=1 then some (tName (hd ts).s (hd ts.tail.tail).s,ts.tail.tail.tail) else none
  else some (tName [] (hd ts).s,ts.tail)
 else none
def pSigned (sgn single:P):P:=fun ts =>
 if (hd ts).k=16 then match sgn ts.tail with
  | none=>none
  | some (x,r)=>some (tOne 2 x,r)
 else single ts
def pIs (x:T)(ts:List Tok):Option (T × List Tok) :=
 if (hd ts).k=43 then (if (hd ts.tail).k=45 then some (tOne 5 x,ts.tail.tail) else none)
 else if (hd ts).k=45 then some (tOne 4 x,ts.tail) else none
def pComp (sum:P):P:=fun ts=>match sum ts with
 | none=>none
 | some (x,r)=>match cmpOp (hd r).k with
  | some o=>match sum r.tail with
   | none=>none
   | some (y,r')=>some (tTwo o x y,r')
  | none=>if (hd r).k=44 then pIs x r.tail else some (x,r)
def pNo (no comp:P):P:=fun ts =>
 if (hd ts).k=43 then match no ts.tail with
  | none=>none
  | some (x,r)=>some (tOne 3 x,r)
 else comp ts
structure Lv where
 val:P
 no:P
 sgn:P
def Lv.single (v:Lv):P:=pSingle v.val
def Lv.signed (v:Lv):P:=pSigned v.sgn v.single
def Lv.prod (v:Lv):P:=chained v.signed prodOp
def Lv.sum (v:Lv):P:=chained v.prod sumOp
def Lv.comp (v:Lv):P:=pComp v.sum
def Lv.no' (v:Lv):P:=pNo v.no v.comp
def Lv.both (v:Lv):P:=chained v.no' andOp
def Lv.value (v:Lv):P:=chained v.both orOp
def lv:Nat->Lv
 | 0=>⟨fun _=>none,fun _=>none,fun _=>none⟩
 | k+1=>⟨(lv k).value,(lv k).no',(lv k).signed⟩
def pVal (k:Nat):P:=(lv k).value
def Shr (p:P):Prop:=∀ ts x r,p ts=some (x,r)->r.length<=ts.length
theorem tail_le (ts:List Tok):ts.tail.length<=ts.length:=by cases ts <;> simp
theorem chain_shr {part:P}{op:Nat->Option Nat}(hp:Shr part):∀ (f:Nat)(x:T)(ts:List Tok)(y:T)(r:List Tok),chain part op f x ts=some (y,r)->r.length<=ts.length
 | 0,_,_,_,_,h=>by simp [chain] at h
 | f+1,x,ts,y,r,h=>by
  unfold chain at h
  split at h
  ·simp at h;rw [h.2];exact Nat.le_refl _
  ·split at h
   ·cases h
   ·rename_i o _ _ z r' hz
    have h1:=hp _ _ _ hz
    have h2:=chain_shr hp f _ _ _ _ h
    have:=tail_le ts
    omega
theorem chained_shr {part:P}{op:Nat->Option Nat}(hp:Shr part):Shr (chained part op):=by
 intro ts x r h
 unfold chained at h
 split at h
 ·cases h
 ·rename_i y r' hy
  have h1:=hp _ _ _ hy
  have h2:=chain_shr hp _ _ _ _ _ h
  omega
theorem single_shr {val:P}(hv:Shr val):Shr (pSingle val):=by
 intro ts x r h
 have t1:=tail_le ts
 have t2:=tail_le ts.tail
 have t3:=tail_le ts.tail.tail
 unfold pSingle at h
 repeat' (split at h)
 all_goals first
  | cases h;done
  | (simp at h;obtain ⟨_,rfl⟩:=h;omega)
  | (rename_i hz _;have:=hv _ _ _ hz;simp at h;obtain ⟨_,rfl⟩:=h;have:=tail_le ‹List Tok›;omega)
theorem signed_shr {sgn single:P}(h1:Shr sgn)(h2:Shr single):Shr (pSigned sgn single):=by
 intro ts x r h
 unfold pSigned at h
 split at h
 ·split at h
  ·cases h
  ·rename_i hz
   have:=h1 _ _ _ hz
   have:=tail_le ts
   simp at h;obtain ⟨_,rfl⟩:=h;omega
 ·exact h2 _ _ _ h
theorem comp_shr {sum:P}(hs:Shr sum):Shr (pComp sum):=by
 intro ts x r h
 unfold pComp at h
 split at h
 ·cases h
 ·rename_i y r1 hy
  have h1:=hs _ _ _ hy
  split at h
  ·split at h
   ·cases h
   ·rename_i z r2 hz
    have h2:=hs _ _ _ hz
    have:=tail_le r1
    simp at h;obtain ⟨_,rfl⟩:=h;omega
  ·have t1:=tail_le r1
   have t2:=tail_le r1.tail
   have t3:=tail_le r1.tail.tail
   unfold pIs at h
   repeat' (split at h)
   all_goals first
    | cases h;done
    | (simp at h;obtain ⟨_,rfl⟩:=h;omega)
theorem no_shr {no comp:P}(h1:Shr no)(h2:Shr comp):Shr (pNo no comp):=by
 intro ts x r h
 unfold pNo at h
 split at h
 ·split at h
  ·cases h
  ·rename_i hz
   have:=h1 _ _ _ hz
   have:=tail_le ts
   simp at h;obtain ⟨_,rfl⟩:=h;omega
 ·exact h2 _ _ _ h
theorem lv_shr:∀ k,Shr (lv k).val/\Shr (lv k).no/\Shr (lv k).sgn/\Shr (lv k).single/\Shr (lv k).signed/\Shr (lv k).prod/\Shr (lv k).sum/\Shr (lv k).comp/\Shr (lv k).no'/\Shr (lv k).both/\Shr (lv k).value:=by
 have up:∀ v:Lv,Shr v.val->Shr v.no->Shr v.sgn->Shr v.val/\Shr v.no/\Shr v.sgn/\Shr v.single/\Shr v.signed/\Shr v.prod/\Shr v.sum/\Shr v.comp/\Shr v.no'/\Shr v.both/\Shr v.value:=by
  intro v a b c
  have d:=single_shr a
  have e:Shr v.signed:=signed_shr c d
  have f:Shr v.prod:=chained_shr e
  have g:Shr v.sum:=chained_shr f
  have i:Shr v.comp:=comp_shr g
  have j:Shr v.no':=no_shr b i
  have l:Shr v.both:=chained_shr j
  have m:Shr v.value:=chained_shr l
  exact ⟨a,b,c,d,e,f,g,i,j,l,m⟩
 intro k
 induction k with
 | zero=>exact up _ (by intro _ _ _ h;cases h) (by intro _ _ _ h;cases h) (by intro _ _ _ h;cases h)
 | succ k ih=>exact up _ ih.2.2.2.2.2.2.2.2.2.2 ih.2.2.2.2.2.2.2.2.1 ih.2.2.2.2.1
theorem chain_fuel {part:P}{op:Nat->Option Nat}(hp:Shr part)(h0:op 0=none):∀ (f g:Nat)(x:T)(ts:List Tok),ts.length<f->ts.length<g->chain part op f x ts=chain part op g x ts
 | 0,_,_,_,h,_=>by omega
 | _,0,_,_,_,h=>by omega
 | f+1,g+1,x,ts,hf,hg=>by
  unfold chain
  cases ho:op (hd ts).k with
  | none=>rfl
  | some o =>
   cases hz:part ts.tail with
   | none=>rfl
   | some z =>
    obtain ⟨y,r⟩:=z
    have h1:=hp _ _ _ hz
    have h2:ts.tail.length<ts.length:=by
     cases ts with
     | nil=>simp [hd,fin,h0] at ho
     | cons a l=>simp
    exact chain_fuel hp h0 f g _ _ (by omega) (by omega)
end Pl
theorem chain_end {part:Pl.P}{op:Nat->Option Nat}{x:Pl.T}{ts:List Pl.Tok}(h:op (Pl.hd ts).k=none):Pl.chain part op (ts.length+1) x ts=some (x,ts):=by
 unfold Pl.chain;rw [h]
theorem chain_bad {part:Pl.P}{op:Nat->Option Nat}{x:Pl.T}{ts:List Pl.Tok}{o:Nat}(h:op (Pl.hd ts).k=some o)(hp:part ts.tail=none):Pl.chain part op (ts.length+1) x ts=none:=by
 unfold Pl.chain;rw [h];simp only;rw [hp]
theorem chain_step {part:Pl.P}{op:Nat->Option Nat}(hs:Pl.Shr part)(h0:op 0=none){x y:Pl.T}{ts r:List Pl.Tok}{o:Nat}(h:op (Pl.hd ts).k=some o)(hp:part ts.tail=some (y,r)) :
 Pl.chain part op (ts.length+1) x ts=Pl.chain part op (r.length+1) (Pl.tTwo o x y) r/\r.length<ts.length:=by
 have h1:=hs _ _ _ hp
 have h2:ts.tail.length<ts.length:=by
  cases ts with
  | nil=>simp [Pl.hd,Pl.fin,h0] at h
  | cons a l=>simp
 constructor
 ·rw [Pl.chain,h];simp only;rw [hp];simp only
  exact Pl.chain_fuel hs h0 _ _ _ _ (by omega) (by omega)
 ·omega
namespace Pl
open Go.Deep
structure It where
 name:List UInt8
 other:List UInt8
 type:Int
 tree:T
 mark:Bool
abbrev PI:=List Tok->Option (It × List Tok)
def more (p:PI):Nat->List It->List Tok->Option (List It × List Tok)
 | 0,_,_=>none
 | f+1,acc,ts=>match p ts with
  | none=>none
  | some (x,r)=>if (hd r).k=9 then more p f (acc++[x]) r.tail else some (acc++[x],r)
def listed (p:PI)(ts:List Tok):Option (List It × List Tok):=more p (ts.length+1) [] ts
def ShrI (p:PI):Prop:=∀ ts x r,p ts=some (x,r)->r.length<=ts.length
theorem more_fuel {p:PI}(hp:ShrI p):∀ (f g:Nat)(acc:List It)(ts:List Tok),ts.length<f->ts.length<g->more p f acc ts=more p g acc ts
 | 0,_,_,_,h,_=>by omega
 | _,0,_,_,_,h=>by omega
 | f+1,g+1,acc,ts,hf,hg=>by
  unfold more
  cases hz:p ts with
  | none=>rfl
  | some z =>
   obtain ⟨x,r⟩:=z
   simp only
   have h1:=hp _ _ _ hz
   split
   ·rename_i h9
    have h2:r.tail.length<r.length:=by
     cases r with
     | nil=>simp [hd,fin] at h9
     | cons a l=>simp
    exact more_fuel hp f g _ _ (by omega) (by omega)
   ·rfl
theorem more_bad {p:PI}{acc:List It}{ts:List Tok}(h:p ts=none):more p (ts.length+1) acc ts=none:=by
 unfold more;rw [h]
theorem more_end {p:PI}{acc:List It}{ts r:List Tok}{x:It}(h:p ts=some (x,r))(h9:(hd r).k≠9):more p (ts.length+1) acc ts=some (acc++[x],r):=by
 unfold more;rw [h];simp only;rw [if_neg h9]
theorem more_step {p:PI}(hp:ShrI p){acc:List It}{ts r:List Tok}{x:It}(h:p ts=some (x,r))(h9:(hd r).k=9) :
 more p (ts.length+1) acc ts=more p (r.tail.length+1) (acc++[x]) r.tail/\r.tail.length<ts.length:=by
 have h1:=hp _ _ _ h
 have h2:r.tail.length<r.length:=by
  cases r with
  | nil=>simp [hd,fin] at h9
  | cons a l=>simp
 constructor
 ·rw [more,h];simp only;rw [if_pos h9]
  exact more_fuel hp _ _ _ _ (by omega) (by omega)
 ·omega
def pWhere:P:=fun ts=>if (hd ts).k=27 then pVal 20 ts.tail else some (.nil,ts)
def iValue:PI:=fun ts=>match pVal 20 ts with
 | none=>none
 | some (x,r)=>some (⟨[],[],0,x,false⟩,r)
def typeOf (k:Nat):Option Int:=if k=48 then some 1 else if k=49 then some 2 else if k=50 then some 3 else none
def iField:PI:=fun ts=>if (hd ts).k=1 then match typeOf (hd ts.tail).k with
 | none=>none
 | some t=>some (⟨(hd ts).s,[],t,.nil,false⟩,ts.tail.tail)
 else none
def iSet:PI:=fun ts=>if (hd ts).k=1 then
 if (hd ts.tail).k=12 then match pVal 20 ts.tail.tail with
  | none=>none
  | some (x,r)=>some (⟨(hd ts).s,[],0,x,false⟩,r)
 else none
 else none
def iKey:PI:=fun ts=>match pVal 20 ts with
 | none=>none
 | some (x,r)=>if (hd r).k=38 then some (⟨[],[],0,x,true⟩,r.tail) else some (⟨[],[],0,x,false⟩,r)
def iSource:PI:=fun ts=>if (hd ts).k=1 then
 if (hd ts.tail).k=32 then (if (hd ts.tail.tail).k=1 then some (⟨(hd ts).s,(hd ts.tail.tail).s,0,.nil,false⟩,ts.tail.tail.tail) else none)
 else some (⟨(hd ts).s,(hd ts).s,0,.nil,false⟩,ts.tail)
 else none
theorem val_shr:Shr (pVal 20):=(lv_shr 20).2.2.2.2.2.2.2.2.2.2
theorem iValue_shr:ShrI iValue:=by
 intro ts x r h
 unfold iValue at h
 split at h
 ·cases h
 ·rename_i hz;have:=val_shr _ _ _ hz;simp at h;obtain ⟨_,rfl⟩:=h;exact this
theorem iField_shr:ShrI iField:=by
 intro ts x r h
 have t1:=tail_le ts
 have t2:=tail_le ts.tail
 unfold iField at h
 split at h
 ·split at h
  ·cases h
  ·simp at h;obtain ⟨_,rfl⟩:=h;omega
 ·cases h
theorem iSet_shr:ShrI iSet:=by
 intro ts x r h
 have t1:=tail_le ts
 have t2:=tail_le ts.tail
 unfold iSet at h
 split at h
 ·split at h
  ·split at h
   ·cases h
   ·rename_i hz;have:=val_shr _ _ _ hz;simp at h;obtain ⟨_,rfl⟩:=h;omega
  ·cases h
 ·cases h
theorem iKey_shr:ShrI iKey:=by
 intro ts x r h
 unfold iKey at h
 split at h
 ·cases h
 ·rename_i y r1 hz
  have:=val_shr _ _ _ hz
  have t1:=tail_le r1
  split at h
  ·simp at h;obtain ⟨_,rfl⟩:=h;omega
  ·simp at h;obtain ⟨_,rfl⟩:=h;exact this
end Pl
namespace Pl
open Go.Deep
def iJoin (left:Bool)(ts:List Tok):Option (It × List Tok):=match iSource ts with
 | none=>none
 | some (it,r)=>if (hd r).k=35 then (match pVal 20 r.tail with
  | none=>none
  | some (x,r')=>some (⟨it.name,it.other,0,x,left⟩,r')) else none
def joins:Nat->List It->List Tok->Option (List It × List Tok)
 | 0,_,_=>none
 | f+1,acc,ts =>
  if (hd ts).k=33 then (if (hd ts.tail).k=34 then (match iJoin true ts.tail.tail with
      | none=>none
      | some (it,r)=>joins f (acc++[it]) r) else none)
  else if (hd ts).k=34 then (match iJoin false ts.tail with
   | none=>none
   | some (it,r)=>joins f (acc++[it]) r)
  else some (acc,ts)
def pSources (ts:List Tok):Option (List It × List Tok):=match iSource ts with
 | none=>none
 | some (it,r)=>joins (r.length+1) [it] r
theorem iSource_shr:ShrI iSource:=by
 intro ts x r h
 have t1:=tail_le ts
 have t2:=tail_le ts.tail
 have t3:=tail_le ts.tail.tail
 unfold iSource at h
 repeat' (split at h)
 all_goals first
  | cases h;done
  | (simp at h;obtain ⟨_,rfl⟩:=h;omega)
theorem iJoin_shr (left:Bool):ShrI (iJoin left):=by
 intro ts x r h
 unfold iJoin at h
 split at h
 ·cases h
 ·rename_i it r1 hs
  have h1:=iSource_shr _ _ _ hs
  have t1:=tail_le r1
  split at h
  ·split at h
   ·cases h
   ·rename_i hv
    have h2:=val_shr _ _ _ hv
    simp at h;obtain ⟨_,rfl⟩:=h;omega
  ·cases h
theorem hd_tail_lt {ts:List Tok}{k:Nat}(hk:k≠0)(h:(hd ts).k=k):ts.tail.length<ts.length:=by
 cases ts with
 | nil=>simp [hd,fin] at h;exact absurd h.symm hk
 | cons a l=>simp
theorem joins_fuel:∀ (f g:Nat)(acc:List It)(ts:List Tok),ts.length<f->ts.length<g->joins f acc ts=joins g acc ts
 | 0,_,_,_,h,_=>by omega
 | _,0,_,_,_,h=>by omega
 | f+1,g+1,acc,ts,hf,hg=>by
  unfold joins
  split
  ·rename_i h33
   have a1:=hd_tail_lt (by decide) h33
   split
   ·rename_i h34
    have a2:=hd_tail_lt (by decide) h34
    cases hj:iJoin true ts.tail.tail with
    | none=>rfl
    | some z =>
     have:=iJoin_shr true _ z.1 z.2 hj
     exact joins_fuel f g _ _ (by omega) (by omega)
   ·rfl
  ·split
   ·rename_i h34
    have a2:=hd_tail_lt (by decide) h34
    cases hj:iJoin false ts.tail with
    | none=>rfl
    | some z =>
     have:=iJoin_shr false _ z.1 z.2 hj
     exact joins_fuel f g _ _ (by omega) (by omega)
   ·rfl
def joinAt (left:Bool)(ts r:List Tok):Prop:=if left=true then (hd ts).k=33/\(hd ts.tail).k=34/\r=ts.tail.tail else (hd ts).k=34/\r=ts.tail
theorem joinAt_lt {left:Bool}{ts r:List Tok}(h:joinAt left ts r):r.length<ts.length:=by
 unfold joinAt at h
 split at h
 ·obtain ⟨h1,h2,rfl⟩:=h
  have a1:=hd_tail_lt (by decide) h1
  have a2:=hd_tail_lt (by decide) h2
  omega
 ·obtain ⟨h1,rfl⟩:=h
  exact hd_tail_lt (by decide) h1
theorem joins_at {left:Bool}{ts r:List Tok}{acc:List It}(h:joinAt left ts r):joins (ts.length+1) acc ts=match iJoin left r with|none=>none|some (it,r')=>joins (r'.length+1) (acc++[it]) r':=by
 have hlt:=joinAt_lt h
 have key:∀ z:It × List Tok,iJoin left r=some z->joins ts.length (acc++[z.1]) z.2=joins (z.2.length+1) (acc++[z.1]) z.2:=fun z hz=>by
  have:=iJoin_shr left _ z.1 z.2 hz
  exact joins_fuel _ _ _ _ (by omega) (by omega)
 unfold joinAt at h
 unfold joins
 cases left with
 | true =>
  simp only [if_true] at h
  obtain ⟨h1,h2,rfl⟩:=h
  rw [if_pos h1,if_pos h2]
  cases hj:iJoin true ts.tail.tail with
  | none=>rfl
  | some z=>exact key z hj
 | false =>
  simp only [Bool.false_eq_true,if_false] at h
  obtain ⟨h1,rfl⟩:=h
  rw [if_neg (by omega),if_pos h1]
  cases hj:iJoin false ts.tail with
  | none=>rfl
  | some z=>exact key z hj
theorem joins_end {ts:List Tok}{acc:List It}(h1:(hd ts).k≠33)(h2:(hd ts).k≠34):joins (ts.length+1) acc ts=some (acc,ts):=by
 unfold joins;rw [if_neg h1,if_neg h2]
theorem joins_wrong {ts:List Tok}{acc:List It}(h1:(hd ts).k=33)(h2:(hd ts.tail).k≠34):joins (ts.length+1) acc ts=none:=by
 unfold joins;rw [if_pos h1,if_neg h2]
end Pl
namespace Pl
open Go.Deep
structure St where
 kind:Int
 table:List UInt8
 items:List It
 sources:List It
 whr:T
 keys:List It
 distinct:Bool
 all:Bool
 limit:Int
 offset:Int
abbrev PS:=List Tok->Option (St × List Tok)
def pLimit (ts:List Tok):Option ((Int × Int) × List Tok) :=
 if (hd ts).k=39 then
  if (hd ts.tail).k=2 then
   if (hd ts.tail.tail).k=40 then
    if (hd ts.tail.tail.tail).k=2 then some (((hd ts.tail).n,(hd ts.tail.tail.tail).n),ts.tail.tail.tail.tail) else none
   else some (((hd ts.tail).n,0),ts.tail.tail)
  else none
 else some ((-1,0),ts)
def pKeys (ts:List Tok):Option (List It × List Tok) :=
 if (hd ts).k=36 then (if (hd ts.tail).k=37 then listed iKey ts.tail.tail else none) else some ([],ts)
def pTold (ts:List Tok):Option ((Bool × List It) × List Tok) :=
 if (hd ts).k=17 then some ((true,[]),ts.tail) else match listed iValue ts with
  | none=>none
  | some (l,r)=>some ((false,l),r)
def pLast (dis all:Bool)(items srcs:List It)(wh:T)(keys:List It)(ts:List Tok):Option (St × List Tok):=match pLimit ts with
 | none=>none
 | some z=>some (⟨115,[],items,srcs,wh,keys,dis,all,z.1.1,z.1.2⟩,z.2)
def pTail2 (dis all:Bool)(items srcs:List It)(wh:T):Option (List It × List Tok)->Option (St × List Tok)
 | none=>none
 | some y=>pLast dis all items srcs wh y.1 y.2
def pTail1 (dis all:Bool)(items srcs:List It):Option (T × List Tok)->Option (St × List Tok)
 | none=>none
 | some z=>pTail2 dis all items srcs z.1 (pKeys z.2)
def pTail (dis all:Bool)(items srcs:List It)(ts:List Tok):Option (St × List Tok):=pTail1 dis all items srcs (pWhere ts)
def pFrom1 (dis all:Bool)(items:List It):Option (List It × List Tok)->Option (St × List Tok)
 | none=>none
 | some z=>if 3<z.1.length then none else pTail dis all items z.1 z.2
def pFrom (dis all:Bool)(items:List It)(ts:List Tok):Option (St × List Tok):=if (hd ts).k=26 then pFrom1 dis all items (pSources ts.tail) else none
def pDis (ts:List Tok):List Tok:=if (hd ts).k=31 then ts.tail else ts
def pQuery:PS:=fun ts=>match pTold (pDis ts) with
 | none=>none
 | some z=>pFrom ((hd ts).k == 31) z.1.1 z.1.2 z.2
theorem query_none {ts:List Tok}(h:pTold (pDis ts)=none):pQuery ts=none:=by unfold pQuery;rw [h]
theorem query_some {ts r:List Tok}{all:Bool}{items:List It}(h:pTold (pDis ts)=some ((all,items),r)):pQuery ts=pFrom ((hd ts).k == 31) all items r:=by unfold pQuery;rw [h]
def st0 (kind:Int)(table:List UInt8)(items:List It)(wh:T):St:=⟨kind,table,items,[],wh,[],false,false,0,0⟩
def inOpen (p:PI)(ts:List Tok):Option (List It × List Tok):=if (hd ts).k=7 then (match listed p ts.tail with
 | none=>none
 | some (l,r)=>if (hd r).k=8 then some (l,r.tail) else none) else none
def pCreate:PS:=fun ts=>if (hd ts).k=21 then
 if (hd ts.tail).k=1 then match inOpen iField ts.tail.tail with
  | none=>none
  | some (l,r)=>if 5<l.length then none else some (st0 99 (hd ts.tail).s l .nil,r)
 else none
 else none
def pInsert:PS:=fun ts=>if (hd ts).k=23 then
 if (hd ts.tail).k=1 then
  if (hd ts.tail.tail).k=24 then match inOpen iValue ts.tail.tail.tail with
   | none=>none
   | some (l,r)=>some (st0 105 (hd ts.tail).s l .nil,r)
  else none
 else none
 else none
def pDelete:PS:=fun ts=>if (hd ts).k=26 then
 if (hd ts.tail).k=1 then match pWhere ts.tail.tail with
  | none=>none
  | some (wh,r)=>some (st0 100 (hd ts.tail).s [] wh,r)
 else none
 else none
def pUpdate:PS:=fun ts=>if (hd ts).k=1 then
 if (hd ts.tail).k=29 then match listed iSet ts.tail.tail with
  | none=>none
  | some (l,r)=>match pWhere r with
   | none=>none
   | some (wh,r')=>some (st0 117 (hd ts).s l wh,r')
 else none
 else none
def pStatement:PS:=fun ts =>
 if (hd ts).k=20 then pCreate ts.tail
 else if (hd ts).k=22 then pInsert ts.tail
 else if (hd ts).k=25 then pDelete ts.tail
 else if (hd ts).k=28 then pUpdate ts.tail
 else if (hd ts).k=30 then pQuery ts.tail
 else none
def pSemi (r:List Tok):List Tok:=if (hd r).k=11 then r.tail else r
def pEnd:Option (St × List Tok)->Option St
 | none=>none
 | some z=>if (hd (pSemi z.2)).k=0 then some z.1 else none
def pParse (l:List UInt8):Option St:=if 600<l.length then none else pEnd (pStatement (toks l))
end Pl
namespace Pl
open Go.Deep
def NoBad (ts:List Tok):Prop:=∀ t ∈ ts,t.k≠99
def Sub (r ts:List Tok):Prop:=(NoBad r->NoBad ts)/\∀ t ∈ r,t ∈ ts
theorem Sub.refl (ts:List Tok):Sub ts ts:=⟨id,fun _ h=>h⟩
theorem Sub.trans {a b c:List Tok}(h:Sub a b)(k:Sub b c):Sub a c:=⟨fun x=>k.1 (h.1 x),fun t ht=>k.2 t (h.2 t ht)⟩
theorem Sub.tail {ts:List Tok}(h:(hd ts).k≠99):Sub ts.tail ts:=by
 cases ts with
 | nil=>exact Sub.refl _
 | cons a l =>
  refine ⟨fun hn t ht=>?_,fun t ht=>List.mem_cons_of_mem _ ht⟩
  rcases List.mem_cons.1 ht with rfl|h'
  ·exact h
  ·exact hn t h'
theorem Sub.tl {ts:List Tok}{k:Nat}(hk:k≠99)(h:(hd ts).k=k):Sub ts.tail ts:=Sub.tail (by omega)
def Nb {α:Type}(p:List Tok->Option (α × List Tok)):Prop:=∀ ts x r,p ts=some (x,r)->Sub r ts
theorem chain_nb {part:P}{op:Nat->Option Nat}(hp:Nb part)(h9:op 99=none):∀ (f:Nat)(x:T)(ts:List Tok)(y:T)(r:List Tok),chain part op f x ts=some (y,r)->Sub r ts
 | 0,_,_,_,_,h=>by simp [chain] at h
 | f+1,x,ts,y,r,h=>by
  unfold chain at h
  split at h
  ·simp at h;rw [h.2];exact Sub.refl _
  ·rename_i o ho
   split at h
   ·cases h
   ·rename_i z r' hz
    exact ((chain_nb hp h9 f _ _ _ _ h).trans (hp _ _ _ hz)).trans (Sub.tail (fun e=>by rw [e,h9] at ho;cases ho))
theorem chained_nb {part:P}{op:Nat->Option Nat}(hp:Nb part)(h9:op 99=none):Nb (chained part op):=by
 intro ts x r h
 unfold chained at h
 split at h
 ·cases h
 ·rename_i y r' hy
  exact (chain_nb hp h9 _ _ _ _ _ h).trans (hp _ _ _ hy)
theorem single_nb {val:P}(hv:Nb val):Nb (pSingle val):=by
 intro ts x r h
 unfold pSingle at h
 split at h
 ·rename_i h7
  split at h
  ·cases h
  ·rename_i y r1 hz
   split at h
   ·rename_i h8
    simp at h;obtain ⟨_,rfl⟩:=h
    exact ((Sub.tl (by decide) h8).trans (hv _ _ _ hz)).trans (Sub.tl (by decide) h7)
   ·cases h
 ·repeat' (split at h)
  all_goals first
   | cases h;done
   | (simp at h;obtain ⟨_,rfl⟩:=h;exact Sub.tail (by omega))
   | (simp at h;obtain ⟨_,rfl⟩:=h;exact ((Sub.tail (by omega)).trans (Sub.tail (by omega))).trans (Sub.tail (by omega)))
theorem signed_nb {sgn single:P}(h1:Nb sgn)(h2:Nb single):Nb (pSigned sgn single):=by
 intro ts x r h
 unfold pSigned at h
 split at h
 ·rename_i h16
  split at h
  ·cases h
  ·rename_i hz
   simp at h;obtain ⟨_,rfl⟩:=h
   exact (h1 _ _ _ hz).trans (Sub.tl (by decide) h16)
 ·exact h2 _ _ _ h
theorem is_nb {x:T}{ts:List Tok}{y:T}{r:List Tok}(h:pIs x ts=some (y,r)):Sub r ts:=by
 unfold pIs at h
 repeat' (split at h)
 all_goals first
  | cases h;done
  | (simp at h;obtain ⟨_,rfl⟩:=h;exact Sub.tail (by omega))
  | (simp at h;obtain ⟨_,rfl⟩:=h;exact (Sub.tail (by omega)).trans (Sub.tail (by omega)))
theorem comp_nb {sum:P}(hs:Nb sum):Nb (pComp sum):=by
 intro ts x r h
 unfold pComp at h
 split at h
 ·cases h
 ·rename_i y r1 hy
  have h1:=hs _ _ _ hy
  split at h
  ·rename_i o ho
   split at h
   ·cases h
   ·rename_i z r2 hz
    simp at h;obtain ⟨_,rfl⟩:=h
    exact ((hs _ _ _ hz).trans (Sub.tail (fun e=>by rw [e] at ho;cases ho))).trans h1
  ·split at h
   ·rename_i h44
    exact ((is_nb h).trans (Sub.tl (by decide) h44)).trans h1
   ·simp at h;obtain ⟨_,rfl⟩:=h;exact h1
theorem no_nb {no comp:P}(h1:Nb no)(h2:Nb comp):Nb (pNo no comp):=by
 intro ts x r h
 unfold pNo at h
 split at h
 ·rename_i h43
  split at h
  ·cases h
  ·rename_i hz
   simp at h;obtain ⟨_,rfl⟩:=h
   exact (h1 _ _ _ hz).trans (Sub.tl (by decide) h43)
 ·exact h2 _ _ _ h
theorem lv_nb:∀ k,Nb (lv k).value/\Nb (lv k).no'/\Nb (lv k).signed:=by
 have up:∀ v:Lv,Nb v.val->Nb v.no->Nb v.sgn->Nb v.value/\Nb v.no'/\Nb v.signed:=by
  intro v a b c
  have d:=single_nb a
  have e:Nb v.signed:=signed_nb c d
  have f:Nb v.prod:=chained_nb e rfl
  have g:Nb v.sum:=chained_nb f rfl
  have i:Nb v.comp:=comp_nb g
  have j:Nb v.no':=no_nb b i
  have l:Nb v.both:=chained_nb j rfl
  have m:Nb v.value:=chained_nb l rfl
  exact ⟨m,j,e⟩
 intro k
 induction k with
 | zero=>exact up _ (by intro _ _ _ h;cases h) (by intro _ _ _ h;cases h) (by intro _ _ _ h;cases h)
 | succ k ih=>exact up _ ih.1 ih.2.1 ih.2.2
theorem val_nb:Nb (pVal 20):=(lv_nb 20).1
theorem more_nb {p:PI}(hp:Nb p):∀ (f:Nat)(acc:List It)(ts:List Tok)(y:List It)(r:List Tok),more p f acc ts=some (y,r)->Sub r ts
 | 0,_,_,_,_,h=>by simp [more] at h
 | f+1,acc,ts,y,r,h=>by
  unfold more at h
  split at h
  ·cases h
  ·rename_i z r' hz
   split at h
   ·rename_i h9
    exact ((more_nb hp f _ _ _ _ h).trans (Sub.tl (by decide) h9)).trans (hp _ _ _ hz)
   ·simp at h;obtain ⟨_,rfl⟩:=h;exact hp _ _ _ hz
theorem listed_nb {p:PI}(hp:Nb p):Nb (listed p):=fun _ _ _ h=>more_nb hp _ _ _ _ _ h
theorem where_nb:Nb pWhere:=by
 intro ts x r h
 unfold pWhere at h
 split at h
 ·rename_i h27
  exact (val_nb _ _ _ h).trans (Sub.tl (by decide) h27)
 ·simp at h;obtain ⟨_,rfl⟩:=h;exact Sub.refl _
theorem iValue_nb:Nb iValue:=by
 intro ts x r h
 unfold iValue at h
 split at h
 ·cases h
 ·rename_i hz;simp at h;obtain ⟨_,rfl⟩:=h;exact val_nb _ _ _ hz
theorem typeOf_nb {k:Nat}{t:Int}(h:typeOf k=some t):k≠99:=by
 intro e;subst e;cases h
theorem iField_nb:Nb iField:=by
 intro ts x r h
 unfold iField at h
 split at h
 ·rename_i h1
  split at h
  ·cases h
  ·rename_i ht
   simp at h;obtain ⟨_,rfl⟩:=h
   exact (Sub.tail (typeOf_nb ht)).trans (Sub.tl (by decide) h1)
 ·cases h
theorem iSet_nb:Nb iSet:=by
 intro ts x r h
 unfold iSet at h
 split at h
 ·rename_i h1
  split at h
  ·rename_i h12
   split at h
   ·cases h
   ·rename_i hz
    simp at h;obtain ⟨_,rfl⟩:=h
    exact ((val_nb _ _ _ hz).trans (Sub.tl (by decide) h12)).trans (Sub.tl (by decide) h1)
  ·cases h
 ·cases h
theorem iKey_nb:Nb iKey:=by
 intro ts x r h
 unfold iKey at h
 split at h
 ·cases h
 ·rename_i y r1 hz
  split at h
  ·rename_i h38
   simp at h;obtain ⟨_,rfl⟩:=h
   exact (Sub.tl (by decide) h38).trans (val_nb _ _ _ hz)
  ·simp at h;obtain ⟨_,rfl⟩:=h;exact val_nb _ _ _ hz
theorem iSource_nb:Nb iSource:=by
 intro ts x r h
 unfold iSource at h
 repeat' (split at h)
 all_goals first
  | cases h;done
  | (simp at h;obtain ⟨_,rfl⟩:=h;exact Sub.tail (by omega))
  | (simp at h;obtain ⟨_,rfl⟩:=h;exact ((Sub.tail (by omega)).trans (Sub.tail (by omega))).trans (Sub.tail (by omega)))
theorem iJoin_nb (left:Bool):Nb (iJoin left):=by
 intro ts x r h
 unfold iJoin at h
 split at h
 ·cases h
 ·rename_i it r1 hs
  split at h
  ·rename_i h35
   split at h
   ·cases h
   ·rename_i hv
    simp at h;obtain ⟨_,rfl⟩:=h
    exact ((val_nb _ _ _ hv).trans (Sub.tl (by decide) h35)).trans (iSource_nb _ _ _ hs)
  ·cases h
theorem joins_nb:∀ (f:Nat)(acc:List It)(ts:List Tok)(y:List It)(r:List Tok),joins f acc ts=some (y,r)->Sub r ts
 | 0,_,_,_,_,h=>by simp [joins] at h
 | f+1,acc,ts,y,r,h=>by
  unfold joins at h
  split at h
  ·rename_i h33
   split at h
   ·rename_i h34
    split at h
    ·cases h
    ·rename_i hj
     exact (((joins_nb f _ _ _ _ h).trans (iJoin_nb _ _ _ _ hj)).trans (Sub.tl (by decide) h34)).trans (Sub.tl (by decide) h33)
   ·cases h
  ·split at h
   ·rename_i h34
    split at h
    ·cases h
    ·rename_i hj
     exact ((joins_nb f _ _ _ _ h).trans (iJoin_nb _ _ _ _ hj)).trans (Sub.tl (by decide) h34)
   ·simp at h;obtain ⟨_,rfl⟩:=h;exact Sub.refl _
theorem sources_nb:Nb pSources:=by
 intro ts y r h
 unfold pSources at h
 split at h
 ·cases h
 ·rename_i hs
  exact (joins_nb _ _ _ _ _ h).trans (iSource_nb _ _ _ hs)
theorem limit_nb:Nb pLimit:=by
 intro ts x r h
 unfold pLimit at h
 repeat' (split at h)
 all_goals first
  | cases h;done
  | (simp at h;obtain ⟨_,rfl⟩:=h;exact Sub.refl _)
  | (simp at h;obtain ⟨_,rfl⟩:=h;exact (Sub.tail (by omega)).trans (Sub.tail (by omega)))
  | (simp at h;obtain ⟨_,rfl⟩:=h;exact (((Sub.tail (by omega)).trans (Sub.tail (by omega))).trans (Sub.tail (by omega))).trans (Sub.tail (by omega)))
theorem keys_nb:Nb pKeys:=by
 intro ts x r h
 unfold pKeys at h
 split at h
 ·rename_i h36
  split at h
  ·rename_i h37
   exact ((listed_nb iKey_nb _ _ _ h).trans (Sub.tl (by decide) h37)).trans (Sub.tl (by decide) h36)
  ·cases h
 ·simp at h;obtain ⟨_,rfl⟩:=h;exact Sub.refl _
theorem told_nb:Nb pTold:=by
 intro ts x r h
 unfold pTold at h
 split at h
 ·rename_i h17;simp at h;obtain ⟨_,rfl⟩:=h;exact Sub.tl (by decide) h17
 ·split at h
  ·cases h
  ·rename_i hl;simp at h;obtain ⟨_,rfl⟩:=h;exact listed_nb iValue_nb _ _ _ hl
theorem query_nb:Nb pQuery:=by
 intro ts x r h
 unfold pQuery at h
 split at h
 ·cases h
 ·rename_i z hz
  have h1:Sub z.2 (pDis ts):=told_nb _ z.1 z.2 hz
  have h0:Sub (pDis ts) ts:=by unfold pDis;split;exact Sub.tl (k:=31) (by decide) ‹_›;exact Sub.refl _
  refine Sub.trans ?_ (h1.trans h0)
  unfold pFrom at h
  split at h
  ·rename_i h26
   refine Sub.trans ?_ (Sub.tl (by decide) h26)
   unfold pFrom1 at h
   split at h
   ·cases h
   ·rename_i y hy
    split at h
    ·cases h
    ·refine Sub.trans ?_ (sources_nb _ y.1 y.2 hy)
     unfold pTail pTail1 at h
     split at h
     ·cases h
     ·rename_i v hv
      refine Sub.trans ?_ (where_nb _ v.1 v.2 hv)
      unfold pTail2 at h
      split at h
      ·cases h
      ·rename_i u hu
       refine Sub.trans ?_ (keys_nb _ u.1 u.2 hu)
       unfold pLast at h
       split at h
       ·cases h
       ·rename_i q hq
        simp at h;obtain ⟨_,rfl⟩:=h
        exact limit_nb _ q.1 q.2 hq
  ·cases h
theorem inOpen_nb {p:PI}(hp:Nb p):Nb (inOpen p):=by
 intro ts x r h
 unfold inOpen at h
 split at h
 ·rename_i h7
  split at h
  ·cases h
  ·rename_i hl
   split at h
   ·rename_i h8
    simp at h;obtain ⟨_,rfl⟩:=h
    exact ((Sub.tl (by decide) h8).trans (listed_nb hp _ _ _ hl)).trans (Sub.tl (by decide) h7)
   ·cases h
 ·cases h
theorem statement_nb:Nb pStatement:=by
 intro ts x r h
 unfold pStatement at h
 split at h
 ·rename_i h20
  refine Sub.trans ?_ (Sub.tl (by decide) h20)
  unfold pCreate at h
  split at h
  ·rename_i h21
   split at h
   ·rename_i h1
    split at h
    ·cases h
    ·rename_i hl
     split at h
     ·cases h
     ·simp at h;obtain ⟨_,rfl⟩:=h
      exact ((inOpen_nb iField_nb _ _ _ hl).trans (Sub.tl (by decide) h1)).trans (Sub.tl (by decide) h21)
   ·cases h
  ·cases h
 ·split at h
  ·rename_i h22
   refine Sub.trans ?_ (Sub.tl (by decide) h22)
   unfold pInsert at h
   split at h
   ·rename_i h23
    split at h
    ·rename_i h1
     split at h
     ·rename_i h24
      split at h
      ·cases h
      ·rename_i hl
       simp at h;obtain ⟨_,rfl⟩:=h
       exact (((inOpen_nb iValue_nb _ _ _ hl).trans (Sub.tl (by decide) h24)).trans (Sub.tl (by decide) h1)).trans (Sub.tl (by decide) h23)
     ·cases h
    ·cases h
   ·cases h
  ·split at h
   ·rename_i h25
    refine Sub.trans ?_ (Sub.tl (by decide) h25)
    unfold pDelete at h
    split at h
    ·rename_i h26
     split at h
     ·rename_i h1
      split at h
      ·cases h
      ·rename_i hw
       simp at h;obtain ⟨_,rfl⟩:=h
       exact ((where_nb _ _ _ hw).trans (Sub.tl (by decide) h1)).trans (Sub.tl (by decide) h26)
     ·cases h
    ·cases h
   ·split at h
    ·rename_i h28
     refine Sub.trans ?_ (Sub.tl (by decide) h28)
     unfold pUpdate at h
     split at h
     ·rename_i h1
      split at h
      ·rename_i h29
       split at h
       ·cases h
       ·rename_i hl
        split at h
        ·cases h
        ·rename_i hw
         simp at h;obtain ⟨_,rfl⟩:=h
         exact (((where_nb _ _ _ hw).trans (listed_nb iSet_nb _ _ _ hl)).trans (Sub.tl (by decide) h29)).trans (Sub.tl (by decide) h1)
      ·cases h
     ·cases h
    ·split at h
     ·rename_i h30
      exact (query_nb _ _ _ h).trans (Sub.tl (by decide) h30)
     ·cases h
theorem parse_bad {l:List UInt8}(h:¬ NoBad (toks l)):pEnd (pStatement (toks l))=none:=by
 cases hp:pStatement (toks l) with
 | none=>rfl
 | some z =>
  have hs:Sub z.2 (toks l):=statement_nb _ z.1 z.2 hp
  unfold pEnd
  simp only
  split
  ·rename_i h0
   exfalso
   apply h
   have hs2:Sub (pSemi z.2) z.2:=by unfold pSemi;split;exact Sub.tl (k:=11) (by decide) ‹_›;exact Sub.refl _
   refine (hs2.trans hs).1 ?_
   have hmem:=fun t ht=>(hs2.trans hs).2 t ht
   cases hq:pSemi z.2 with
   | nil=>intro t ht;cases ht
   | cons a q =>
    rw [hq] at h0
    have ha:a.k=0:=h0
    rcases toks_mem (l.length+1) l a (by omega) (hmem a (by rw [hq];simp)) with h1|h1
    ·omega
    ·rw [h1] at ha;cases ha
  ·rfl
end Pl
end Go.Proofs.YtojdpjpldokjmaaGreatDoor
