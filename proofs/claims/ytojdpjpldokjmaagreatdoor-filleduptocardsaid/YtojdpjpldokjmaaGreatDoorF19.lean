/- The document's truth, two, order. -/
import Derived.Test.YtojdpjpldokjmaaGreatDoorF05
import Derived.Test.YtojdpjpldokjmaaGreatDoorF09
import Derived.Test.YtojdpjpldokjmaaGreatDoorF08
set_option maxHeartbeats 60000000
set_option maxRecDepth 100000
namespace Go.Proofs.YtojdpjpldokjmaaGreatDoor
open Go.RowKit Go.Deep
set_option linter.unusedSimpArgs false
set_option linter.unusedVariables false
def aggR (v:Pl.V):Value:=.agg #[.int .i64 v.kind,.int .i64 v.n,.string ⟨v.s.toArray⟩]
theorem truthR (b:Bool)(w:World):Calls Tryz.prog 192 #[.bool b] w fun e w'=>e=.returned (aggR (Pl.tru b))/\Below w.heap.size w w':=by
 have HB:Hid (∀ o,Below w.heap.size w (w.alloc o)):=fun o=>(Below.refl _ _).alloc (Nat.le_refl _) _
 cases b
 all_goals
  go_enter Tryz.func192,Tryz.ntmps192
  go_wp2_with fail
 ·exact bodyPost_ret (v:=aggR (Pl.tru false)) (by simp [results,Tryz.results192,go_sem,aggR,Pl.tru]) rfl ⟨rfl,HB.out _⟩
 ·exact bodyPost_ret (v:=aggR (Pl.tru true)) (by simp [results,Tryz.results192,go_sem,aggR,Pl.tru]) rfl ⟨rfl,HB.out _⟩
theorem twoR (a b m:Int)(w:World)(ha:0<=a/\a<=3)(hb:0<=b/\b<=3)(hm:m=0\/m=1\/m=3):Calls Tryz.prog 191 #[.int .i64 a,.int .i64 b,.int .i64 m] w fun e w'=>e=.returned (.int .i64 (Pl.twoE a b m))/\w'=w:=by
 obtain ⟨x,hx4,rfl⟩:∃ x:Nat,x<4/\(x:Int)=a:=⟨a.toNat,by omega,by omega⟩
 obtain ⟨y,hy4,rfl⟩:∃ y:Nat,y<4/\(y:Int)=b:=⟨b.toNat,by omega,by omega⟩
 have h4:∀ n:Nat,n<4->n=0\/n=1\/n=2\/n=3:=fun n h=>by omega
 rcases hm with rfl|rfl|rfl <;> rcases h4 x hx4 with rfl|rfl|rfl|rfl <;> rcases h4 y hy4 with rfl|rfl|rfl|rfl
 all_goals
  clear h4 ha hb hx4 hy4
  go_enter Tryz.func191,Tryz.ntmps191
  go_wp2_with fail
  go_ret
  exact ⟨rfl,rfl⟩
theorem ordR_lt {a b:Pl.V}(h:a.kind<b.kind):Pl.ordR a b=-1:=by unfold Pl.ordR;rw [if_pos h]
theorem ordR_gt {a b:Pl.V}(h:b.kind<a.kind):Pl.ordR a b=1:=by unfold Pl.ordR;rw [if_neg (by omega),if_pos h]
theorem ordR_n {a b:Pl.V}(hk:a.kind=b.kind)(h:a.n<b.n):Pl.ordR a b=-1:=by unfold Pl.ordR;rw [if_neg (by omega),if_neg (by omega),if_pos (.inl h)]
theorem ordR_s {a b:Pl.V}(hk:a.kind=b.kind)(hn:a.n=b.n)(h:Op.bytesLess a.s b.s=true):Pl.ordR a b=-1:=by unfold Pl.ordR;rw [if_neg (by omega),if_neg (by omega),if_pos (.inr ⟨hn,h⟩)]
theorem ordR_e {a b:Pl.V}(hk:a.kind=b.kind)(h1:¬ a.n<b.n)(h2:a.n=b.n->Op.bytesLess a.s b.s=false):Pl.ordR a b=if Pl.V.same a b=true then 0 else 1:=by
 unfold Pl.ordR
 rw [if_neg (by omega),if_neg (by omega),if_neg (fun e=>by
  rcases e with e|⟨e,e'⟩
  ·exact h1 e
  ·rw [h2 e] at e';cases e')]
 by_cases h:a=b
 ·rw [if_pos h,if_pos (Pl.V.same_yes h)]
 ·rw [if_neg h,Pl.V.same_no h,if_neg (by simp)]
theorem orderR (a b:Pl.V)(w:World) :
 Calls Tryz.prog 194 #[.agg #[.int .i64 a.kind,.int .i64 a.n,.string ⟨a.s.toArray⟩],.agg #[.int .i64 b.kind,.int .i64 b.n,.string ⟨b.s.toArray⟩]] w fun e w'=>e=.returned (.int .i64 (Pl.ordR a b))/\Below w.heap.size w w':=by
 have HBw:Hid (∀ o o2,Below w.heap.size w ((w.alloc o).alloc o2)):=fun o o2=>((Below.refl _ _).alloc (Nat.le_refl _) _).alloc (by simp) _
 rcases Int.lt_trichotomy a.kind b.kind with hk|hk|hk
 ·rw [ordR_lt hk]
  generalize (⟨a.s.toArray⟩:ByteArray)=s1
  generalize (⟨b.s.toArray⟩:ByteArray)=s2
  go_enter Tryz.func194,Tryz.ntmps194
  go_wp2_with fail
  go_ret
  exact ⟨rfl,HBw.out _ _⟩
 ·by_cases hn:a.n<b.n
  ·rw [ordR_n hk hn]
   generalize (⟨a.s.toArray⟩:ByteArray)=s1
   generalize (⟨b.s.toArray⟩:ByteArray)=s2
   rw [<- hk]
   clear hk
   go_enter Tryz.func194,Tryz.ntmps194
   go_wp2_with fail
   go_ret
   exact ⟨rfl,HBw.out _ _⟩
  ·by_cases he:a.n=b.n
   ·cases hs:Op.bytesLess a.s b.s with
    | true =>
     rw [ordR_s hk he hs]
     have hs':Op.bytesLess (⟨a.s.toArray⟩:ByteArray).toList (⟨b.s.toArray⟩:ByteArray).toList=true:=by simpa using hs
     generalize (⟨a.s.toArray⟩:ByteArray)=s1 at *
     generalize (⟨b.s.toArray⟩:ByteArray)=s2 at *
     rw [<- hk,<- he]
     clear hn hk he hs
     go_enter Tryz.func194,Tryz.ntmps194
     go_wp2_with fail
     go_ret
     exact ⟨rfl,HBw.out _ _⟩
    | false =>
     rw [ordR_e hk hn (fun _=>hs)]
     have hs':Op.bytesLess (⟨a.s.toArray⟩:ByteArray).toList (⟨b.s.toArray⟩:ByteArray).toList=false:=by simpa using hs
     have heq:=eql_run
     have hev:=eqB_V a b
     generalize (⟨a.s.toArray⟩:ByteArray)=s1 at *
     generalize (⟨b.s.toArray⟩:ByteArray)=s2 at *
     cases hsm:Pl.V.same a b with
     | true =>
      rw [hsm] at hev
      rw [if_pos rfl]
      rw [<- hk,<- he] at hev ⊢
      clear hn hsm hk he hs
      go_enter Tryz.func194,Tryz.ntmps194
      go_wp2_with fail
      go_ret
      exact ⟨rfl,HBw.out _ _⟩
     | false =>
      rw [hsm] at hev
      rw [if_neg (by simp)]
      rw [<- hk,<- he] at hev ⊢
      clear hn hsm hk he hs
      go_enter Tryz.func194,Tryz.ntmps194
      go_wp2_with fail
      go_ret
      exact ⟨rfl,HBw.out _ _⟩
   ·rw [ordR_e hk hn (fun e=>absurd e he)]
    have heq:=eql_run
    have hev:=eqB_V a b
    have hsm:Pl.V.same a b=false:=Pl.V.same_no (fun e=>he (by rw [e]))
    have hen:(a.n == b.n)=false:=by simp [he]
    generalize (⟨a.s.toArray⟩:ByteArray)=s1 at *
    generalize (⟨b.s.toArray⟩:ByteArray)=s2 at *
    rw [hsm] at hev ⊢
    rw [if_neg (by simp)]
    rw [<- hk] at hev ⊢
    clear hsm hk he
    go_enter Tryz.func194,Tryz.ntmps194
    go_wp2_with fail
    go_ret
    exact ⟨rfl,HBw.out _ _⟩
 ·rw [ordR_gt hk]
  generalize (⟨a.s.toArray⟩:ByteArray)=s1
  generalize (⟨b.s.toArray⟩:ByteArray)=s2
  have hk':¬ a.kind<b.kind:=by omega
  go_enter Tryz.func194,Tryz.ntmps194
  go_wp2_with fail
  go_ret
  exact ⟨rfl,HBw.out _ _⟩
theorem timesM (a b:Int)(w:World)(ha:Pl.in64 a)(hb:Pl.in64 b) :
 Calls Tryz.prog 240 #[.int .i64 a,.int .i64 b] w fun e w'=>e=.returned (.tuple #[.int .i64 (Pl.timesR a b).1,.bool (Pl.timesR a b).2])/\w'=w:=by
 by_cases h0:a=0
 ·have e:Pl.timesR a b=(0,true):=by unfold Pl.timesR;rw [if_pos (.inl h0)]
  rw [e]
  subst h0
  clear ha hb e
  go_enter Tryz.func240,Tryz.ntmps240
  go_wp2_with fail
  exact bodyPost_ret (v:=.tuple #[.int .i64 0,.bool true]) (by simp [results,Tryz.results240,go_sem]) rfl ⟨rfl,rfl⟩
 ·by_cases h1:b=0
  ·have e:Pl.timesR a b=(0,true):=by unfold Pl.timesR;rw [if_pos (.inr h1)]
   rw [e]
   subst h1
   have h0':(a == 0)=false:=by simp [h0]
   clear ha hb e h0
   go_enter Tryz.func240,Tryz.ntmps240
   go_wp2_with fail
   exact bodyPost_ret (v:=.tuple #[.int .i64 0,.bool true]) (by simp [results,Tryz.results240,go_sem]) rfl ⟨rfl,rfl⟩
  ·have h0':(a == 0)=false:=by simp [h0]
   have h1':(b == 0)=false:=by simp [h1]
   by_cases hm:a=-9223372036854775808\/b=-9223372036854775808
   ·have e:Pl.timesR a b=(IntKind.i64.wrap (a*b),decide (a=1\/b=1)):=by
     unfold Pl.timesR
     rw [if_neg (fun e=>e.elim h0 h1),if_pos hm]
    rw [e]
    have HE:=Z e
    clear e
    by_cases ha1:a=1
    ·subst ha1
     have hbm:b=-9223372036854775808:=by omega
     subst hbm
     clear HE hm ha hb
     rw [show IntKind.i64.wrap (1*-9223372036854775808)=-9223372036854775808 by rw [IntKind.wrap_i64];rfl,show decide ((1:Int)=1\/(-9223372036854775808:Int)=1)=true from rfl]
     go_enter Tryz.func240,Tryz.ntmps240
     go_wp2_with fail
     exact bodyPost_ret (v:=.tuple #[.int .i64 (-9223372036854775808),.bool true]) (by simp [results,Tryz.results240,go_sem]) rfl ⟨rfl,rfl⟩
    ·have ha1':(a == 1)=false:=by simp [ha1]
     by_cases hb1:b=1
     ·subst hb1
      have ham:a=-9223372036854775808:=by omega
      subst ham
      clear HE hm ha hb
      rw [show IntKind.i64.wrap (-9223372036854775808*1)=-9223372036854775808 by rw [IntKind.wrap_i64];rfl,show decide ((-9223372036854775808:Int)=1\/(1:Int)=1)=true from rfl]
      go_enter Tryz.func240,Tryz.ntmps240
      go_wp2_with fail
      exact bodyPost_ret (v:=.tuple #[.int .i64 (-9223372036854775808),.bool true]) (by simp [results,Tryz.results240,go_sem]) rfl ⟨rfl,rfl⟩
     ·have hb1':(b == 1)=false:=by simp [hb1]
      have hd:decide (a=1\/b=1)=false:=by simp [ha1,hb1]
      rw [hd]
      by_cases ham:a=-9223372036854775808
      ·subst ham
       generalize hL:IntKind.i64.wrap (-9223372036854775808*b)=L at *
       clear HE hm ha hb hd
       go_enter Tryz.func240,Tryz.ntmps240
       go_wp2_with fail
       exact bodyPost_ret (v:=.tuple #[.int .i64 L,.bool false]) (by simp [results,Tryz.results240,go_sem]) rfl ⟨rfl,rfl⟩
      ·have hbm:b=-9223372036854775808:=by omega
       subst hbm
       have ham':(a == -9223372036854775808)=false:=by simp [ham]
       generalize hL:IntKind.i64.wrap (a*-9223372036854775808)=L at *
       clear HE hm ha hb hd
       go_enter Tryz.func240,Tryz.ntmps240
       go_wp2_with fail
       exact bodyPost_ret (v:=.tuple #[.int .i64 L,.bool false]) (by simp [results,Tryz.results240,go_sem]) rfl ⟨rfl,rfl⟩
   ·have hma:(a == -9223372036854775808)=false:=by simp;exact fun e=>hm (.inl e)
    have hmb:(b == -9223372036854775808)=false:=by simp;exact fun e=>hm (.inr e)
    have hxl:a.natAbs<=9223372036854775807:=by unfold Pl.in64 at ha;omega
    have hyl:b.natAbs<=9223372036854775807:=by unfold Pl.in64 at hb;omega
    have hyp:0<b.natAbs:=by omega
    have e:Pl.timesR a b=if a.natAbs<=9223372036854775807 / b.natAbs then (a*b,true) else (IntKind.i64.wrap ((a.natAbs*b.natAbs:Nat):Int),decide (IntKind.i64.wrap ((a.natAbs*b.natAbs:Nat):Int)=-9223372036854775808/\a.natAbs=4611686018427387904 / b.natAbs*2/\4611686018427387904 % b.natAbs=0/\(a<0)≠(b<0))):=by
     unfold Pl.timesR
     rw [if_neg (fun e=>e.elim h0 h1),if_neg hm]
    rw [e]
    have HOk:=Z (Pl.timesR_ok ha hb)
    rw [e] at HOk
    clear e
    have hxa:(a<0/\-a=(a.natAbs:Int))\/(¬ a<0/\a=(a.natAbs:Int)):=by omega
    have hya:(b<0/\-b=(b.natAbs:Int))\/(¬ b<0/\b=(b.natAbs:Int)):=by omega
    obtain ⟨q,hq,HQ⟩:∃ q:Nat,(9223372036854775807:Int) / (b.natAbs:Int)=(q:Nat)/\Hid (q=9223372036854775807 / b.natAbs):=⟨9223372036854775807 / b.natAbs,by simp,rfl⟩
    generalize a.natAbs=x at *
    generalize b.natAbs=y at *
    rw [<- HQ.out] at HOk ⊢
    have hql:q<=9223372036854775807:=by rw [HQ.out];exact Nat.div_le_self _ _
    by_cases hle:x<=q
    ·rw [if_pos hle] at HOk ⊢
     have hin:Pl.in64 (a*b):=by
      by_cases hin:Pl.in64 (a*b)
      ·exact hin
      ·have:=HOk.out.2 hin;simp at this
     have hw:=Pl.wrap_in hin
     clear HOk HQ h0 h1 hm
     rcases hxa with ⟨sa,xa⟩|⟨sa,xa⟩ <;> rcases hya with ⟨sb,yb⟩|⟨sb,yb⟩
     ·have wa:IntKind.i64.wrap (-a)=(x:Int):=by rw [xa];exact Pl.wrap_in (by unfold Pl.in64;omega)
      have wb:IntKind.i64.wrap (-b)=(y:Int):=by rw [yb];exact Pl.wrap_in (by unfold Pl.in64;omega)
      clear xa yb hin ha hb
      go_enter Tryz.func240,Tryz.ntmps240
      go_wp2_with fail
      exact bodyPost_ret (v:=.tuple #[.int .i64 (a*b),.bool true]) (by simp [results,Tryz.results240,go_sem]) rfl ⟨rfl,rfl⟩
     ·have wa:IntKind.i64.wrap (-a)=(x:Int):=by rw [xa];exact Pl.wrap_in (by unfold Pl.in64;omega)
      subst yb
      clear xa hin ha hb
      go_enter Tryz.func240,Tryz.ntmps240
      go_wp2_with fail
      exact bodyPost_ret (v:=.tuple #[.int .i64 (a*y),.bool true]) (by simp [results,Tryz.results240,go_sem]) rfl ⟨rfl,rfl⟩
     ·have wb:IntKind.i64.wrap (-b)=(y:Int):=by rw [yb];exact Pl.wrap_in (by unfold Pl.in64;omega)
      subst xa
      clear yb hin ha hb
      go_enter Tryz.func240,Tryz.ntmps240
      go_wp2_with fail
      exact bodyPost_ret (v:=.tuple #[.int .i64 (x*b),.bool true]) (by simp [results,Tryz.results240,go_sem]) rfl ⟨rfl,rfl⟩
     ·subst xa
      subst yb
      clear hin ha hb
      go_enter Tryz.func240,Tryz.ntmps240
      go_wp2_with fail
      exact bodyPost_ret (v:=.tuple #[.int .i64 (x*y),.bool true]) (by simp [results,Tryz.results240,go_sem]) rfl ⟨rfl,rfl⟩
    ·rw [if_neg hle]
     have hy2:2<=y:=by
      by_cases h:2<=y
      ·exact h
      ·have:y=1:=by omega
       rw [HQ.out,this] at hle
       simp at hle
       omega
     obtain ⟨q2,hq2,HQ2⟩:∃ q2:Nat,(4611686018427387904:Int) / (y:Int)=(q2:Nat)/\Hid (q2=4611686018427387904 / y):=⟨4611686018427387904 / y,by simp,rfl⟩
     obtain ⟨r2,hr2,HR2⟩:∃ r2:Nat,(4611686018427387904:Int) % (y:Int)=(r2:Nat)/\Hid (r2=4611686018427387904 % y):=⟨4611686018427387904 % y,by simp,rfl⟩
     have hq2l:q2<=2305843009213693952:=by
      rw [HQ2.out]
      exact Nat.le_trans (Nat.div_le_div_left hy2 (by omega)) (by decide)
     rw [<- HQ2.out,<- HR2.out,Int.natCast_mul]
     have hdec:decide (IntKind.i64.wrap ((x:Int)*(y:Int))=-9223372036854775808/\x=q2*2/\r2=0/\(a<0)≠(b<0))=((IntKind.i64.wrap ((x:Int)*(y:Int)) == -9223372036854775808) && ((((x:Nat):Int) == ((q2*2:Nat):Int)) && ((((r2:Nat):Int) == 0) && (decide (a<0) != decide (b<0))))):=by
      rw [Bool.eq_iff_iff,decide_eq_true_iff]
      simp only [Bool.and_eq_true,beq_iff_eq,bne_iff_ne,ne_eq,eq_iff_iff,decide_eq_decide]
      omega
     rw [hdec]
     have hm2:IntKind.i64.wrap ((q2:Int)*2)=((q2*2:Nat):Int):=by
      rw [show (q2:Int)*2=((q2*2:Nat):Int) by simp]
      exact Pl.wrap_in (by unfold Pl.in64;omega)
     clear HOk HQ HQ2 HR2 hdec h0 h1 hm
     generalize q2*2=q3 at *
     generalize hL:IntKind.i64.wrap ((x:Int)*(y:Int))=L at *
     rcases hxa with ⟨sa,xa⟩|⟨sa,xa⟩ <;> rcases hya with ⟨sb,yb⟩|⟨sb,yb⟩
     ·have wa:IntKind.i64.wrap (-a)=(x:Int):=by rw [xa];exact Pl.wrap_in (by unfold Pl.in64;omega)
      have wb:IntKind.i64.wrap (-b)=(y:Int):=by rw [yb];exact Pl.wrap_in (by unfold Pl.in64;omega)
      rw [show (decide (a<0) != decide (b<0))=false by simp [sa,sb]]
      clear xa yb ha hb
      cases hB1:(L == -9223372036854775808) <;> cases hB2:(((x:Nat):Int) == ((q3:Nat):Int)) <;> cases hB3:(((r2:Nat):Int) == 0)
      all_goals
       go_enter Tryz.func240,Tryz.ntmps240
       go_wp2_with fail
      all_goals exact bodyPost_ret (v:=.tuple #[.int .i64 L,.bool false]) (by simp [results,Tryz.results240,go_sem]) rfl ⟨rfl,rfl⟩
     ·have wa:IntKind.i64.wrap (-a)=(x:Int):=by rw [xa];exact Pl.wrap_in (by unfold Pl.in64;omega)
      rw [show (decide (a<0) != decide (b<0))=true by simp [sa];omega]
      subst yb
      clear xa ha hb
      cases hB1:(L == -9223372036854775808) <;> cases hB2:(((x:Nat):Int) == ((q3:Nat):Int)) <;> cases hB3:(((r2:Nat):Int) == 0)
      all_goals
       go_enter Tryz.func240,Tryz.ntmps240
       go_wp2_with fail
      all_goals first|exact bodyPost_ret (v:=.tuple #[.int .i64 L,.bool false]) (by simp [results,Tryz.results240,go_sem]) rfl ⟨rfl,rfl⟩|exact bodyPost_ret (v:=.tuple #[.int .i64 L,.bool true]) (by simp [results,Tryz.results240,go_sem]) rfl ⟨rfl,rfl⟩
     ·have wb:IntKind.i64.wrap (-b)=(y:Int):=by rw [yb];exact Pl.wrap_in (by unfold Pl.in64;omega)
      rw [show (decide (a<0) != decide (b<0))=true by simp [sb];omega]
      subst xa
      clear yb ha hb
      cases hB1:(L == -9223372036854775808) <;> cases hB2:(((x:Nat):Int) == ((q3:Nat):Int)) <;> cases hB3:(((r2:Nat):Int) == 0)
      all_goals
       go_enter Tryz.func240,Tryz.ntmps240
       go_wp2_with fail
      all_goals first|exact bodyPost_ret (v:=.tuple #[.int .i64 L,.bool false]) (by simp [results,Tryz.results240,go_sem]) rfl ⟨rfl,rfl⟩|exact bodyPost_ret (v:=.tuple #[.int .i64 L,.bool true]) (by simp [results,Tryz.results240,go_sem]) rfl ⟨rfl,rfl⟩
     ·rw [show (decide (a<0) != decide (b<0))=false by simp;omega]
      subst xa
      subst yb
      clear ha hb
      cases hB1:(L == -9223372036854775808) <;> cases hB2:(((x:Nat):Int) == ((q3:Nat):Int)) <;> cases hB3:(((r2:Nat):Int) == 0)
      all_goals
       go_enter Tryz.func240,Tryz.ntmps240
       go_wp2_with fail
      all_goals exact bodyPost_ret (v:=.tuple #[.int .i64 L,.bool false]) (by simp [results,Tryz.results240,go_sem]) rfl ⟨rfl,rfl⟩
def outE (o:Pl.Out Pl.V):Value:=match o with
 | .ok v=>.tuple #[aggR v,.int .i64 0]
 | .error e=>.tuple #[aggR Pl.nul,.int .i64 (e:Nat)]
theorem ranged_yes {n:Int}(h:Pl.in64 n):Pl.ranged n=.ok ⟨1,n,[]⟩:=by unfold Pl.ranged;rw [if_pos h]
theorem ranged_no {n:Int}(h:¬ Pl.in64 n):Pl.ranged n=.error 4:=by unfold Pl.ranged;rw [if_neg h]
theorem reckonAdd (a b:Int)(w:World)(ha:Pl.in64 a)(hb:Pl.in64 b) :
 Calls Tryz.prog 193 #[.string ⟨#[43]⟩,.int .i64 a,.int .i64 b] w fun e w'=>e=.returned (outE (Pl.ranged (a+b)))/\Below w.heap.size w w':=by
 have HB:Hid (∀ o,Below w.heap.size w (w.alloc o)):=fun o=>(Below.refl _ _).alloc (Nat.le_refl _) _
 by_cases hin:Pl.in64 (a+b)
 ·rw [ranged_yes hin]
  have hw:=Pl.wrap_in hin
  by_cases hs:0<=b
  ·have h1:a<=a+b:=by omega
   clear ha hb hin
   go_enter Tryz.func193,Tryz.ntmps193
   go_wp2_with fail
   exact bodyPost_ret (v:=.tuple #[.agg #[.int .i64 1,.int .i64 (a+b),.string ⟨#[]⟩],.int .i64 0]) (by simp [results,Tryz.results193,go_sem]) rfl ⟨rfl,HB.out _⟩
  ·have hs':b<0:=by omega
   have h1:a+b<a:=by omega
   clear ha hb hin
   go_enter Tryz.func193,Tryz.ntmps193
   go_wp2_with fail
   exact bodyPost_ret (v:=.tuple #[.agg #[.int .i64 1,.int .i64 (a+b),.string ⟨#[]⟩],.int .i64 0]) (by simp [results,Tryz.results193,go_sem]) rfl ⟨rfl,HB.out _⟩
 ·rw [ranged_no hin]
  by_cases hs:0<=b
  ·have hw:IntKind.i64.wrap (a+b)=a+b - 18446744073709551616:=by rw [IntKind.wrap_i64];unfold Pl.in64 at *;omega
   have h1:¬ a<=a+b - 18446744073709551616:=by omega
   clear ha hb hin
   go_enter Tryz.func193,Tryz.ntmps193
   go_wp2_with fail
   exact bodyPost_ret (v:=.tuple #[.agg #[.int .i64 0,.int .i64 0,.string ⟨#[]⟩],.int .i64 4]) (by simp [results,Tryz.results193,go_sem]) rfl ⟨rfl,HB.out _⟩
  ·have hs':b<0:=by omega
   have hw:IntKind.i64.wrap (a+b)=a+b+18446744073709551616:=by rw [IntKind.wrap_i64];unfold Pl.in64 at *;omega
   have h1:¬ a+b+18446744073709551616<a:=by omega
   clear ha hb hin
   go_enter Tryz.func193,Tryz.ntmps193
   go_wp2_with fail
   exact bodyPost_ret (v:=.tuple #[.agg #[.int .i64 0,.int .i64 0,.string ⟨#[]⟩],.int .i64 4]) (by simp [results,Tryz.results193,go_sem]) rfl ⟨rfl,HB.out _⟩
theorem reckonSub (a b:Int)(w:World)(ha:Pl.in64 a)(hb:Pl.in64 b) :
 Calls Tryz.prog 193 #[.string ⟨#[45]⟩,.int .i64 a,.int .i64 b] w fun e w'=>e=.returned (outE (Pl.ranged (a - b)))/\Below w.heap.size w w':=by
 have HB:Hid (∀ o,Below w.heap.size w (w.alloc o)):=fun o=>(Below.refl _ _).alloc (Nat.le_refl _) _
 by_cases hin:Pl.in64 (a - b)
 ·rw [ranged_yes hin]
  have hw:=Pl.wrap_in hin
  by_cases hs:b<=0
  ·have h1:a<=a - b:=by omega
   clear ha hb hin
   go_enter Tryz.func193,Tryz.ntmps193
   go_wp2_with fail
   exact bodyPost_ret (v:=.tuple #[.agg #[.int .i64 1,.int .i64 (a - b),.string ⟨#[]⟩],.int .i64 0]) (by simp [results,Tryz.results193,go_sem]) rfl ⟨rfl,HB.out _⟩
  ·have hs':0<b:=by omega
   have h1:a - b<a:=by omega
   clear ha hb hin
   go_enter Tryz.func193,Tryz.ntmps193
   go_wp2_with fail
   exact bodyPost_ret (v:=.tuple #[.agg #[.int .i64 1,.int .i64 (a - b),.string ⟨#[]⟩],.int .i64 0]) (by simp [results,Tryz.results193,go_sem]) rfl ⟨rfl,HB.out _⟩
 ·rw [ranged_no hin]
  by_cases hs:b<=0
  ·have hw:IntKind.i64.wrap (a - b)=a - b - 18446744073709551616:=by rw [IntKind.wrap_i64];unfold Pl.in64 at *;omega
   have h1:¬ a<=a - b - 18446744073709551616:=by omega
   clear ha hb hin
   go_enter Tryz.func193,Tryz.ntmps193
   go_wp2_with fail
   exact bodyPost_ret (v:=.tuple #[.agg #[.int .i64 0,.int .i64 0,.string ⟨#[]⟩],.int .i64 4]) (by simp [results,Tryz.results193,go_sem]) rfl ⟨rfl,HB.out _⟩
  ·have hs':0<b:=by omega
   have hw:IntKind.i64.wrap (a - b)=a - b+18446744073709551616:=by rw [IntKind.wrap_i64];unfold Pl.in64 at *;omega
   have h1:¬ a - b+18446744073709551616<a:=by omega
   clear ha hb hin
   go_enter Tryz.func193,Tryz.ntmps193
   go_wp2_with fail
   exact bodyPost_ret (v:=.tuple #[.agg #[.int .i64 0,.int .i64 0,.string ⟨#[]⟩],.int .i64 4]) (by simp [results,Tryz.results193,go_sem]) rfl ⟨rfl,HB.out _⟩
theorem reckonMul (a b:Int)(w:World)(ha:Pl.in64 a)(hb:Pl.in64 b) :
 Calls Tryz.prog 193 #[.string ⟨#[42]⟩,.int .i64 a,.int .i64 b] w fun e w'=>e=.returned (outE (Pl.ranged (a*b)))/\Below w.heap.size w w':=by
 have HB:Hid (∀ o,Below w.heap.size w (w.alloc o)):=fun o=>(Below.refl _ _).alloc (Nat.le_refl _) _
 have HC:=Z (timesM a b (w.alloc (.cells #[.int .i64 0,.int .i64 0,.string ⟨#[]⟩] 34)) ha hb)
 have HOk:=Z (Pl.timesR_ok ha hb)
 by_cases hin:Pl.in64 (a*b)
 ·rw [ranged_yes hin]
  rw [HOk.out.1 hin] at HC
  clear ha hb hin HOk
  go_enter Tryz.func193,Tryz.ntmps193
  go_wp2_with fail
  refine (U HC).mono ?_
  rintro e w1 ⟨rfl,rfl⟩
  clear HC
  go_wp2_with fail
  exact bodyPost_ret (v:=.tuple #[.agg #[.int .i64 1,.int .i64 (a*b),.string ⟨#[]⟩],.int .i64 0]) (by simp [results,Tryz.results193,go_sem]) rfl ⟨rfl,HB.out _⟩
 ·rw [ranged_no hin]
  rw [HOk.out.2 hin] at HC
  clear ha hb hin HOk
  generalize (Pl.timesR a b).1=L at *
  go_enter Tryz.func193,Tryz.ntmps193
  go_wp2_with fail
  refine (U HC).mono ?_
  rintro e w1 ⟨rfl,rfl⟩
  clear HC
  go_wp2_with fail
  exact bodyPost_ret (v:=.tuple #[.agg #[.int .i64 0,.int .i64 0,.string ⟨#[]⟩],.int .i64 4]) (by simp [results,Tryz.results193,go_sem]) rfl ⟨rfl,HB.out _⟩
theorem reckonDiv (a b:Int)(w:World)(ha:Pl.in64 a)(hb:Pl.in64 b) :
 Calls Tryz.prog 193 #[.string ⟨#[58]⟩,.int .i64 a,.int .i64 b] w fun e w'=>e=.returned (outE (Pl.reckon 9 a b))/\Below w.heap.size w w':=by
 have HB:Hid (∀ o,Below w.heap.size w (w.alloc o)):=fun o=>(Below.refl _ _).alloc (Nat.le_refl _) _
 by_cases h0:b=0
 ·subst h0
  rw [show Pl.reckon 9 a 0=.error 5 from rfl]
  clear ha hb
  go_enter Tryz.func193,Tryz.ntmps193
  go_wp2_with fail
  exact bodyPost_ret (v:=.tuple #[.agg #[.int .i64 0,.int .i64 0,.string ⟨#[]⟩],.int .i64 5]) (by simp [results,Tryz.results193,go_sem]) rfl ⟨rfl,HB.out _⟩
 ·have e:Pl.reckon 9 a b=Pl.ranged (Int.tdiv a b):=by simp [Pl.reckon,h0]
  rw [e]
  have h0':(b == 0)=false:=by simp [h0]
  by_cases h1:b=-1
  ·subst h1
   rw [show Int.tdiv a (-1)=-a by simp]
   by_cases hm:a=-9223372036854775808
   ·subst hm
    rw [ranged_no (by unfold Pl.in64;omega)]
    clear ha hb e
    go_enter Tryz.func193,Tryz.ntmps193
    go_wp2_with fail
    exact bodyPost_ret (v:=.tuple #[.agg #[.int .i64 0,.int .i64 0,.string ⟨#[]⟩],.int .i64 4]) (by simp [results,Tryz.results193,go_sem]) rfl ⟨rfl,HB.out _⟩
   ·have hin:Pl.in64 (-a):=by unfold Pl.in64 at *;omega
    rw [ranged_yes hin]
    have hw:=Pl.wrap_in hin
    have hm':(a != -9223372036854775808)=true:=by simp [hm]
    clear ha hb e hin hm
    go_enter Tryz.func193,Tryz.ntmps193
    go_wp2_with fail
    exact bodyPost_ret (v:=.tuple #[.agg #[.int .i64 1,.int .i64 (-a),.string ⟨#[]⟩],.int .i64 0]) (by simp [results,Tryz.results193,go_sem]) rfl ⟨rfl,HB.out _⟩
  ·have h1':(b == -1)=false:=by simp [h1]
   have hin:Pl.in64 (Int.tdiv a b):=by
    unfold Pl.in64 at *
    have h2:(Int.tdiv a b).natAbs=a.natAbs / b.natAbs:=Int.natAbs_tdiv a b
    have h3:a.natAbs / b.natAbs<=a.natAbs:=Nat.div_le_self _ _
    by_cases ha':a=-9223372036854775808
    ·have hb2:2<=b.natAbs\/b=1:=by omega
     rcases hb2 with hb2|rfl
     ·have h4:a.natAbs / b.natAbs<=a.natAbs / 2:=Nat.div_le_div_left hb2 (by omega)
      omega
     ·simp;omega
    ·omega
   rw [ranged_yes hin]
   have hw:=Pl.wrap_in hin
   clear ha hb e hin
   go_enter Tryz.func193,Tryz.ntmps193
   go_wp2_with fail
   exact bodyPost_ret (v:=.tuple #[.agg #[.int .i64 1,.int .i64 (Int.tdiv a b),.string ⟨#[]⟩],.int .i64 0]) (by simp [results,Tryz.results193,go_sem]) rfl ⟨rfl,HB.out _⟩
theorem reckonRem (a b:Int)(w:World)(ha:Pl.in64 a)(hb:Pl.in64 b) :
 Calls Tryz.prog 193 #[.string ⟨#[37]⟩,.int .i64 a,.int .i64 b] w fun e w'=>e=.returned (outE (Pl.reckon 10 a b))/\Below w.heap.size w w':=by
 have HB:Hid (∀ o,Below w.heap.size w (w.alloc o)):=fun o=>(Below.refl _ _).alloc (Nat.le_refl _) _
 by_cases h0:b=0
 ·subst h0
  rw [show Pl.reckon 10 a 0=.error 5 from rfl]
  clear ha hb
  go_enter Tryz.func193,Tryz.ntmps193
  go_wp2_with fail
  exact bodyPost_ret (v:=.tuple #[.agg #[.int .i64 0,.int .i64 0,.string ⟨#[]⟩],.int .i64 5]) (by simp [results,Tryz.results193,go_sem]) rfl ⟨rfl,HB.out _⟩
 ·have e:Pl.reckon 10 a b=.ok ⟨1,Int.tmod a b,[]⟩:=by simp [Pl.reckon,h0]
  rw [e]
  have h0':(b == 0)=false:=by simp [h0]
  by_cases h1:b=-1
  ·subst h1
   rw [show Int.tmod a (-1)=0 by simp]
   clear ha hb e
   go_enter Tryz.func193,Tryz.ntmps193
   go_wp2_with fail
   exact bodyPost_ret (v:=.tuple #[.agg #[.int .i64 1,.int .i64 (0),.string ⟨#[]⟩],.int .i64 0]) (by simp [results,Tryz.results193,go_sem]) rfl ⟨rfl,HB.out _⟩
  ·have h1':(b == -1)=false:=by simp [h1]
   have hin:Pl.in64 (Int.tmod a b):=by
    unfold Pl.in64 at *
    have h2:(Int.tmod a b).natAbs=a.natAbs % b.natAbs:=Int.natAbs_tmod a b
    have h3:a.natAbs % b.natAbs<b.natAbs:=Nat.mod_lt _ (by omega)
    omega
   have hw:=Pl.wrap_in hin
   clear ha hb e hin
   go_enter Tryz.func193,Tryz.ntmps193
   go_wp2_with fail
   exact bodyPost_ret (v:=.tuple #[.agg #[.int .i64 1,.int .i64 (Int.tmod a b),.string ⟨#[]⟩],.int .i64 0]) (by simp [results,Tryz.results193,go_sem]) rfl ⟨rfl,HB.out _⟩
theorem reckonR (op:Nat)(h6:6<=op)(h10:op<=10)(a b:Int)(w:World)(ha:Pl.in64 a)(hb:Pl.in64 b) :
 Calls Tryz.prog 193 #[.string (signB op),.int .i64 a,.int .i64 b] w fun e w'=>e=.returned (outE (Pl.reckon op a b))/\Below w.heap.size w w':=by
 obtain rfl|rfl|rfl|rfl|rfl:op=6\/op=7\/op=8\/op=9\/op=10:=by omega
 ·exact reckonAdd a b w ha hb
 ·exact reckonSub a b w ha hb
 ·exact reckonMul a b w ha hb
 ·exact reckonDiv a b w ha hb
 ·exact reckonRem a b w ha hb
end Go.Proofs.YtojdpjpldokjmaaGreatDoor
