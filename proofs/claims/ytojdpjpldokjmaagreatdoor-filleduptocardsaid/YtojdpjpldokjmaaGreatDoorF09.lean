/- The document's reckoning: plainly. Nothing of the program in it. -/
import Derived.Test.YtojdpjpldokjmaaGreatDoorF07
set_option maxHeartbeats 60000000
set_option maxRecDepth 100000
namespace Go.Proofs.YtojdpjpldokjmaaGreatDoor
namespace Pl
open Go.Deep
set_option linter.unusedVariables false
set_option linter.unusedSimpArgs false
def twoE (a b must:Int):Int:=if (decide (0<must) && ((decide (0<a) && a != must) || (decide (0<b) && b != must)) || ((must == 0) && decide (0<a) && decide (0<b) && a != b))=true then 3 else 0
theorem two_fit {op:Nat}{a b:Int}(ha:0<=a/\a<=3)(hb:0<=b/\b<=3)(h6:6<=op):fit op a b=if twoE a b (takes op)=0 then .ok (gives op) else .error 3:=by
 obtain ⟨x,hx,hx4,rfl⟩:∃ x:Nat,True/\x<4/\(x:Int)=a:=⟨a.toNat,trivial,by omega,by omega⟩
 obtain ⟨y,hy,hy4,rfl⟩:∃ y:Nat,True/\y<4/\(y:Int)=b:=⟨b.toNat,trivial,by omega,by omega⟩
 unfold fit
 have ht:takes op=0\/takes op=1\/takes op=3:=by
  unfold takes
  split
  ·exact .inr (.inr rfl)
  ·split
   ·exact .inl rfl
   ·exact .inr (.inl rfl)
 have h4:∀ n:Nat,n<4->n=0\/n=1\/n=2\/n=3:=fun n h=>by omega
 rcases ht with h|h|h <;> rw [h] <;> rcases h4 x hx4 with rfl|rfl|rfl|rfl <;> rcases h4 y hy4 with rfl|rfl|rfl|rfl <;> rfl
theorem one_fit {op:Nat}{a:Int}(ha:0<=a/\a<=3):fit op a a=if twoE a 0 (takes op)=0 then .ok (gives op) else .error 3:=by
 obtain ⟨x,hx,hx4,rfl⟩:∃ x:Nat,True/\x<4/\(x:Int)=a:=⟨a.toNat,trivial,by omega,by omega⟩
 unfold fit
 have ht:takes op=0\/takes op=1\/takes op=3:=by
  unfold takes
  split
  ·exact .inr (.inr rfl)
  ·split
   ·exact .inl rfl
   ·exact .inr (.inl rfl)
 have h4:∀ n:Nat,n<4->n=0\/n=1\/n=2\/n=3:=fun n h=>by omega
 rcases ht with h|h|h <;> rw [h] <;> rcases h4 x hx4 with rfl|rfl|rfl|rfl <;> rfl
def ordR (a b:V):Int:=if a.kind<b.kind then -1 else if b.kind<a.kind then 1 else if a.n<b.n\/(a.n=b.n/\Op.bytesLess a.s b.s=true) then -1 else @ite _ (a=b) (decV a b) 0 1
theorem less_iff:∀ (a b:List UInt8),Op.bytesLess a b=true ↔ Lib.compareBytes a b=-1
 | _,[]=>by
  rename_i a
  cases a <;> simp [Op.bytesLess,Lib.compareBytes]
 | [],_ :: _=>by simp [Op.bytesLess,Lib.compareBytes]
 | x :: a,y :: b=>by
  have ih:=less_iff a b
  unfold Op.bytesLess Lib.compareBytes
  simp only [u8_lt,Bool.or_eq_true,decide_eq_true_eq,Bool.and_eq_true,beq_iff_eq]
  by_cases h1:x.toNat<y.toNat
  ·have h2:x<y:=u8_lt.2 h1
   simp [h1,h2]
  ·by_cases h2:y.toNat<x.toNat
   ·have h3:¬ x<y:=fun h=>h1 (u8_lt.1 h)
    have h4:x≠y:=fun e=>by rw [e] at h2;omega
    simp [h1,h2,h3,h4]
   ·have e:x=y:=UInt8.toNat_inj.1 (by omega)
    subst e
    have h3:¬ x<x:=fun h=>h1 (u8_lt.1 h)
    simp [h3,ih]
theorem bytes_range:∀ (a b:List UInt8),Lib.compareBytes a b=-1\/Lib.compareBytes a b=0\/Lib.compareBytes a b=1
 | [],[]=>.inr (.inl rfl)
 | [],_ :: _=>.inl rfl
 | _ :: _,[]=>.inr (.inr rfl)
 | x :: a,y :: b=>by
  unfold Lib.compareBytes
  split
  ·exact .inl rfl
  ·split
   ·exact .inr (.inr rfl)
   ·exact bytes_range a b
theorem bytes_same:∀ (a:List UInt8),Lib.compareBytes a a=0
 | []=>rfl
 | x :: a=>by
  unfold Lib.compareBytes
  have h:¬ x<x:=fun h=>by have:=u8_lt.1 h;omega
  rw [if_neg h,if_neg h]
  exact bytes_same a
theorem bytes_eq:∀ {a b:List UInt8},Lib.compareBytes a b=0->a=b
 | [],[],_=>rfl
 | [],_ :: _,h=>by simp [Lib.compareBytes] at h
 | _ :: _,[],h=>by simp [Lib.compareBytes] at h
 | x :: a,y :: b,h=>by
  unfold Lib.compareBytes at h
  simp only [u8_lt] at h
  split at h
  ·omega
  ·split at h
   ·omega
   ·rename_i h1 h2
    have e:x=y:=UInt8.toNat_inj.1 (by omega)
    rw [e,bytes_eq h]
theorem ordR_num {k:Int}(n m:Int)(h0:k≠0)(h2:k≠2):(if (⟨k,n,[]⟩:V).n<(⟨k,m,[]⟩:V).n\/((⟨k,n,[]⟩:V).n=(⟨k,m,[]⟩:V).n/\Op.bytesLess (⟨k,n,[]⟩:V).s (⟨k,m,[]⟩:V).s=true) then (-1:Int) else @ite _ ((⟨k,n,[]⟩:V)=⟨k,m,[]⟩) (decV _ _) 0 1)=if (⟨k,n,[]⟩:V).kind=0 then 0 else if (⟨k,n,[]⟩:V).kind=2 then Lib.compareBytes (⟨k,n,[]⟩:V).s (⟨k,m,[]⟩:V).s else Lib.compareInt (⟨k,n,[]⟩:V).n (⟨k,m,[]⟩:V).n:=by
 simp only
 rw [if_neg h0,if_neg h2]
 unfold Lib.compareInt
 by_cases h:n<m
 ·rw [if_pos (.inl h),if_pos h]
 ·rw [if_neg (fun e=>by
   rcases e with e|⟨_,e⟩
   ·exact h e
   ·simp [Op.bytesLess] at e),if_neg h]
  by_cases he:n=m
  ·subst he
   rw [if_pos rfl,if_neg h]
  ·rw [if_neg (fun e=>by injection e with _ e _;exact he e),if_pos (by omega)]
theorem ordR_order {ty:Int}{a b:V}(ha:okV a)(hb:okV b)(h1:ofType ty a)(h2:ofType ty b):ordR a b=order a b:=by
 rw [order_ordT h1 h2]
 unfold ordR ordT
 by_cases hk:a.kind=b.kind
 ·rw [if_neg (by omega),if_neg (by omega),if_pos hk]
  obtain ⟨ka,na,sa⟩:=a
  obtain ⟨kb,nb,sb⟩:=b
  simp only at hk
  subst hk
  rcases ha with ⟨e1,e2,e3⟩|⟨e1,e2,e3⟩|⟨e1,e2,e3⟩|⟨e1,e2,e3⟩ <;> rcases hb with ⟨f1,f2,f3⟩|⟨f1,f2,f3⟩|⟨f1,f2,f3⟩|⟨f1,f2,f3⟩
  all_goals simp only at e1 e2 e3 f1 f2 f3
  all_goals try omega
  ·subst e1;subst e2;subst e3;subst f2;subst f3
   simp [Op.bytesLess]
  ·subst e1;subst e2;subst f2
   exact ordR_num na nb (by decide) (by decide)
  ·subst e1;subst e2;subst f2
   show (if (0:Int)<0\/((0:Int)=0/\Op.bytesLess sa sb=true) then (-1:Int) else @ite _ ((⟨2,0,sa⟩:V)=⟨2,0,sb⟩) (decV _ _) 0 1)=Lib.compareBytes sa sb
   rcases bytes_range sa sb with h|h|h
   ·rw [if_pos (.inr ⟨rfl,(less_iff _ _).2 h⟩),h]
   ·rw [bytes_eq h,if_neg (fun e=>by
     rcases e with e|⟨_,e⟩
     ·omega
     ·rw [less_iff,bytes_same] at e;omega),if_pos rfl,bytes_same]
   ·rw [if_neg (fun e=>by
     rcases e with e|⟨_,e⟩
     ·omega
     ·rw [less_iff,h] at e;omega),if_neg (fun e=>by
     injection e with _ _ e
     rw [e,bytes_same] at h
     omega),h]
  ·subst e1
   have e3':=e3
   have f3':=f3
   subst e3';subst f3'
   exact ordR_num na nb (by decide) (by decide)
 ·rw [if_neg hk]
  unfold Lib.compareInt
  repeat' split
  all_goals first|rfl|omega
theorem Nat.coprime_two_left_iff_odd_aux (x:Nat):Nat.Coprime 2 x ↔ x % 2=1:=by
 unfold Nat.Coprime
 rw [Nat.gcd_rec]
 rcases Nat.mod_two_eq_zero_or_one x with e|e <;> rw [e] <;> simp
def timesR (a b:Int):Int × Bool :=
 if a=0\/b=0 then (0,true)
 else if a=-9223372036854775808\/b=-9223372036854775808 then (IntKind.i64.wrap (a*b),decide (a=1\/b=1))
 else if a.natAbs<=9223372036854775807 / b.natAbs then (a*b,true)
 else (IntKind.i64.wrap ((a.natAbs*b.natAbs:Nat):Int),decide (IntKind.i64.wrap ((a.natAbs*b.natAbs:Nat):Int)=-9223372036854775808/\a.natAbs=4611686018427387904 / b.natAbs*2/\4611686018427387904 % b.natAbs=0/\(a<0)≠(b<0)))
theorem nat_two {x y:Nat}(h:x*y=9223372036854775808)(hy:y<=9223372036854775807):x=4611686018427387904 / y*2/\4611686018427387904 % y=0:=by
 have hy0:0<y:=by
  rcases Nat.eq_zero_or_pos y with e|e
  ·rw [e] at h;simp at h
  ·exact e
 have hx:x % 2=0:=by
  rcases Nat.mod_two_eq_zero_or_one x with e|e
  ·exact e
  ·exfalso
   have hc:Nat.Coprime x (2 ^ 63):=by
    apply Nat.Coprime.pow_right
    rw [Nat.coprime_comm]
    exact (Nat.coprime_two_left_iff_odd_aux x).2 e
   have hd:x ∣ 2 ^ 63:=⟨y,h.symm⟩
   have h1:x=1:=Nat.Coprime.eq_one_of_dvd hc hd
   subst h1
   omega
 obtain ⟨z,rfl⟩:∃ z,x=2*z:=⟨x / 2,by omega⟩
 have h2:z*y=4611686018427387904:=by
  have:2*(z*y)=9223372036854775808:=by rw [<- Nat.mul_assoc];exact h
  omega
 constructor
 ·rw [<- h2,Nat.mul_div_cancel _ hy0];omega
 ·rw [<- h2,Nat.mul_mod_left]
theorem abs_cases (a:Int):(a=(a.natAbs:Int)/\0<=a)\/(a=-(a.natAbs:Int)/\a<0):=by omega
theorem mul_cases (a b:Int):(a*b=((a.natAbs*b.natAbs:Nat):Int)/\((0<=a/\0<=b)\/(a<0/\b<0)))\/(a*b=-((a.natAbs*b.natAbs:Nat):Int)/\((0<=a/\b<0)\/(a<0/\0<=b))):=by
 rcases abs_cases a with ⟨h1,h2⟩|⟨h1,h2⟩ <;> rcases abs_cases b with ⟨h3,h4⟩|⟨h3,h4⟩
 ·left;refine ⟨?_,.inl ⟨h2,h4⟩⟩;conv=>lhs;rw [h1,h3]
  simp
 ·right;refine ⟨?_,.inl ⟨h2,h4⟩⟩;conv=>lhs;rw [h1,h3]
  simp [Int.mul_neg]
 ·right;refine ⟨?_,.inr ⟨h2,h4⟩⟩;conv=>lhs;rw [h1,h3]
  simp [Int.neg_mul]
 ·left;refine ⟨?_,.inr ⟨h2,h4⟩⟩;conv=>lhs;rw [h1,h3]
  rw [Int.neg_mul_neg]
  simp
theorem wrap_in {n:Int}(h:in64 n):IntKind.i64.wrap n=n:=by
 unfold in64 at h
 rw [IntKind.wrap_i64]
 omega
theorem timesR_ok {a b:Int}(ha:in64 a)(hb:in64 b):(in64 (a*b)->timesR a b=(a*b,true))/\(¬ in64 (a*b)->(timesR a b).2=false):=by
 unfold timesR
 by_cases h0:a=0\/b=0
 ·rw [if_pos h0]
  have e:a*b=0:=by rcases h0 with rfl|rfl <;> simp
  rw [e]
  exact ⟨fun _=>rfl,fun h=>absurd (by unfold in64;omega) h⟩
 ·rw [if_neg h0]
  have ha0:a≠0:=fun e=>h0 (.inl e)
  have hb0:b≠0:=fun e=>h0 (.inr e)
  by_cases hm:a=-9223372036854775808\/b=-9223372036854775808
  ·rw [if_pos hm]
   have key:in64 (a*b) ↔ (a=1\/b=1):=by
    unfold in64 at *
    rcases hm with rfl|rfl
    ·omega
    ·omega
   refine ⟨fun h=>?_,fun h=>?_⟩
   ·rw [wrap_in h]
    simp [key.1 h]
   ·simp only
    exact decide_eq_false (fun e=>h (key.2 e))
  ·rw [if_neg hm]
   have hma:a≠-9223372036854775808:=fun e=>hm (.inl e)
   have hmb:b≠-9223372036854775808:=fun e=>hm (.inr e)
   have hx:a.natAbs<=9223372036854775807:=by unfold in64 at ha;omega
   have hy:b.natAbs<=9223372036854775807:=by unfold in64 at hb;omega
   have hy0:0<b.natAbs:=by omega
   have hc:=mul_cases a b
   by_cases hd:a.natAbs<=9223372036854775807 / b.natAbs
   ·rw [if_pos hd]
    have hp:a.natAbs*b.natAbs<=9223372036854775807:=(Nat.le_div_iff_mul_le hy0).1 hd
    exact ⟨fun _=>rfl,fun h=>absurd (by unfold in64;omega) h⟩
   ·rw [if_neg hd]
    have hp:¬ a.natAbs*b.natAbs<=9223372036854775807:=fun h=>hd ((Nat.le_div_iff_mul_le hy0).2 h)
    refine ⟨fun h=>?_,fun h=>?_⟩
    ·have hpe:a.natAbs*b.natAbs=9223372036854775808:=by unfold in64 at h;omega
     have hsg:(a<0)≠(b<0):=fun e=>by
      have e':a<0 ↔ b<0:=by rw [e]
      unfold in64 at h
      omega
     obtain ⟨n1,n2⟩:=nat_two hpe hy
     have hw:IntKind.i64.wrap ((9223372036854775808:Nat):Int)=-9223372036854775808:=by rw [IntKind.wrap_i64];rfl
     rw [hpe,hw]
     refine Prod.ext ?_ ?_
     ·show (-9223372036854775808:Int)=a*b
      unfold in64 at h
      omega
     ·exact decide_eq_true ⟨rfl,n1,n2,hsg⟩
    ·simp only
     refine decide_eq_false ?_
     rintro ⟨_,n1,n2,hsg⟩
     have hpe:a.natAbs*b.natAbs=9223372036854775808:=by
      have h3:=Nat.div_add_mod 4611686018427387904 b.natAbs
      rw [n2,Nat.add_zero] at h3
      rw [n1]
      generalize 4611686018427387904 / b.natAbs=q at *
      have:q*2*b.natAbs=2*(b.natAbs*q):=by rw [Nat.mul_comm q 2,Nat.mul_assoc,Nat.mul_comm q]
      omega
     apply h
     unfold in64
     by_cases hs:a<0
     ·have hsb:¬ b<0:=fun e=>hsg (by simp [hs,e])
      omega
     ·have hsb:b<0:=by
       rcases Int.lt_or_le b 0 with e|e
       ·exact e
       ·exact absurd (by simp [hs,show ¬ b<0 by omega]) hsg
      omega
end Pl
namespace Pl
open Go.Deep
set_option linter.unusedVariables false
def ShI (p:PI):Prop:=∀ ts x r,p ts=some (x,r)->Shp x.tree
def ShL (l:List It):Prop:=∀ i ∈ l,Shp i.tree
theorem ShL.nil:ShL []:=fun i h=>by cases h
theorem ShL.snoc {l:List It}{x:It}(h:ShL l)(hx:Shp x.tree):ShL (l++[x]):=fun i hi=>by
 rcases List.mem_append.1 hi with h1|h1
 ·exact h i h1
 ·simp at h1;subst h1;exact hx
theorem more_shp {p:PI}(hp:ShI p):∀ (f:Nat)(acc:List It)(ts:List Tok)(l:List It)(r:List Tok),ShL acc->more p f acc ts=some (l,r)->ShL l
 | 0,_,_,_,_,_,h=>by simp [more] at h
 | f+1,acc,ts,l,r,ha,h=>by
  unfold more at h
  cases hz:p ts with
  | none=>rw [hz] at h;cases h
  | some z =>
   obtain ⟨x,r1⟩:=z
   rw [hz] at h
   simp only at h
   have hx:=hp _ _ _ hz
   split at h
   ·exact more_shp hp f _ _ _ _ (ha.snoc hx) h
   ·cases h;exact ha.snoc hx
theorem listed_shp {p:PI}(hp:ShI p){ts:List Tok}{l:List It}{r:List Tok}(h:listed p ts=some (l,r)):ShL l:=more_shp hp _ _ _ _ _ ShL.nil h
theorem iValue_shp:ShI iValue:=by
 intro ts x r h
 unfold iValue at h
 split at h
 ·cases h
 ·rename_i y r1 hz;cases h;exact val_shp _ _ _ hz
theorem iField_shp:ShI iField:=by
 intro ts x r h
 unfold iField at h
 split at h
 ·split at h
  ·cases h
  ·cases h;trivial
 ·cases h
theorem iSet_shp:ShI iSet:=by
 intro ts x r h
 unfold iSet at h
 split at h
 ·split at h
  ·split at h
   ·cases h
   ·rename_i y r1 hz;cases h;exact val_shp _ _ _ hz
  ·cases h
 ·cases h
theorem iKey_shp:ShI iKey:=by
 intro ts x r h
 unfold iKey at h
 split at h
 ·cases h
 ·rename_i y r1 hz
  split at h
  ·cases h;exact val_shp _ _ _ hz
  ·cases h;exact val_shp _ _ _ hz
theorem iSource_shp:ShI iSource:=by
 intro ts x r h
 unfold iSource at h
 repeat' (split at h)
 all_goals first
  | (cases h;done)
  | (cases h;trivial)
theorem iJoin_shp (left:Bool):ShI (iJoin left):=by
 intro ts x r h
 unfold iJoin at h
 split at h
 ·cases h
 ·split at h
  ·split at h
   ·cases h
   ·rename_i y r1 hz;cases h;exact val_shp _ _ _ hz
  ·cases h
theorem joins_shp:∀ (f:Nat)(acc:List It)(ts:List Tok)(l:List It)(r:List Tok),ShL acc->joins f acc ts=some (l,r)->ShL l
 | 0,_,_,_,_,_,h=>by simp [joins] at h
 | f+1,acc,ts,l,r,ha,h=>by
  unfold joins at h
  split at h
  ·split at h
   ·cases hz:iJoin true ts.tail.tail with
    | none=>rw [hz] at h;cases h
    | some z=>rw [hz] at h;exact joins_shp f _ _ _ _ (ha.snoc (iJoin_shp true _ z.1 z.2 hz)) h
   ·cases h
  ·split at h
   ·cases hz:iJoin false ts.tail with
    | none=>rw [hz] at h;cases h
    | some z=>rw [hz] at h;exact joins_shp f _ _ _ _ (ha.snoc (iJoin_shp false _ z.1 z.2 hz)) h
   ·cases h;exact ha
theorem sources_shp {ts:List Tok}{l:List It}{r:List Tok}(h:pSources ts=some (l,r)):ShL l:=by
 unfold pSources at h
 split at h
 ·cases h
 ·rename_i it r1 hz
  exact joins_shp _ _ _ _ _ (fun i hi=>by simp at hi;subst hi;exact iSource_shp _ _ _ hz) h
theorem where_shp {ts:List Tok}{x:T}{r:List Tok}(h:pWhere ts=some (x,r)):Shp x:=by
 unfold pWhere at h
 split at h
 ·exact val_shp _ _ _ h
 ·cases h;trivial
structure ShS (s:St):Prop where
 items:ShL s.items
 sources:ShL s.sources
 whr:Shp s.whr
 keys:ShL s.keys
theorem keys_shp {ts:List Tok}{l:List It}{r:List Tok}(h:pKeys ts=some (l,r)):ShL l:=by
 unfold pKeys at h
 split at h
 ·split at h
  ·exact listed_shp iKey_shp h
  ·cases h
 ·cases h;exact ShL.nil
theorem open_shp {p:PI}(hp:ShI p){ts:List Tok}{l:List It}{r:List Tok}(h:inOpen p ts=some (l,r)):ShL l:=by
 unfold inOpen at h
 split at h
 ·split at h
  ·cases h
  ·rename_i l1 r1 hz
   split at h
   ·cases h;exact listed_shp hp hz
   ·cases h
 ·cases h
theorem query_shp {ts:List Tok}{s:St}{r:List Tok}(h:pQuery ts=some (s,r)):ShS s:=by
 unfold pQuery at h
 cases hz:pTold (pDis ts) with
 | none=>rw [hz] at h;cases h
 | some z =>
  obtain ⟨⟨al,items⟩,r1⟩:=z
  rw [hz] at h
  simp only at h
  have hi:ShL items:=by
   unfold pTold at hz
   split at hz
   ·cases hz;exact ShL.nil
   ·split at hz
    ·cases hz
    ·rename_i l2 r2 hl;cases hz;exact listed_shp iValue_shp hl
  unfold pFrom at h
  split at h
  ·cases hs:pSources r1.tail with
   | none=>rw [hs] at h;cases h
   | some y =>
    obtain ⟨srcs,r2⟩:=y
    rw [hs] at h
    unfold pFrom1 at h
    simp only at h
    split at h
    ·cases h
    ·unfold pTail at h
     cases hw:pWhere r2 with
     | none=>rw [hw] at h;cases h
     | some wz =>
      obtain ⟨wh,r3⟩:=wz
      rw [hw] at h
      unfold pTail1 at h
      simp only at h
      cases hk:pKeys r3 with
      | none=>rw [hk] at h;cases h
      | some kz =>
       obtain ⟨ks,r4⟩:=kz
       rw [hk] at h
       unfold pTail2 pLast at h
       simp only at h
       split at h
       ·cases h
       ·cases h
        exact ⟨hi,sources_shp hs,where_shp hw,keys_shp hk⟩
  ·cases h
theorem parse_shp {l:List UInt8}{s:St}(h:pParse l=some s):ShS s:=by
 unfold pParse at h
 split at h
 ·cases h
 ·unfold pEnd at h
  split at h
  ·cases h
  ·rename_i z hz
   split at h
   ·cases h
    obtain ⟨s,r⟩:=z
    have hz':pStatement (toks l)=some (s,r):=hz
    show ShS s
    unfold pStatement at hz'
    split at hz'
    ·unfold pCreate at hz'
     repeat' (split at hz')
     all_goals first
      | (cases hz';done)
      | (rename_i l1 r1 hl _;cases hz';exact ⟨open_shp iField_shp hl,ShL.nil,trivial,ShL.nil⟩)
    ·split at hz'
     ·unfold pInsert at hz'
      repeat' (split at hz')
      all_goals first
       | (cases hz';done)
       | (rename_i l1 r1 hl;cases hz';exact ⟨open_shp iValue_shp hl,ShL.nil,trivial,ShL.nil⟩)
     ·split at hz'
      ·unfold pDelete at hz'
       repeat' (split at hz')
       all_goals first
        | (cases hz';done)
        | (rename_i l1 r1 hl;cases hz';exact ⟨ShL.nil,ShL.nil,where_shp hl,ShL.nil⟩)
      ·split at hz'
       ·unfold pUpdate at hz'
        repeat' (split at hz')
        all_goals first
         | (cases hz';done)
         | (rename_i l1 r1 hl _ wh r2 hw;cases hz';exact ⟨listed_shp iSet_shp hl,ShL.nil,where_shp hw,ShL.nil⟩)
       ·split at hz'
        ·exact query_shp hz'
        ·cases hz'
   ·cases h
end Pl
end Go.Proofs.YtojdpjpldokjmaaGreatDoor
