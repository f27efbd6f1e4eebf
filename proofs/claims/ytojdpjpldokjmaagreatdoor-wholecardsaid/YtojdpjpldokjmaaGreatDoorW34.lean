/- SELECT and DELETE with a condition made of pieces, read: plainly. Nothing of the program in it. -/
import Derived.Test.YtojdpjpldokjmaaGreatDoorW10
set_option maxHeartbeats 16000000
set_option maxRecDepth 100000
namespace Go.Proofs.YtojdpjpldokjmaaGreatDoor
namespace Pl
open Go.Deep
set_option linter.unusedVariables false
set_option linter.unusedSimpArgs false
def xAll:List UInt8 := [83,69,76,69,67,84,32,42,32,70,82,79,77,32,116]
def tokT:Tok := ⟨1,0,nT⟩
theorem cl_select:Cl [83,69,76,69,67,84] [kt 30] := cl_kw _ 30 rfl rfl (by kernel_rfl) (by decide)
theorem cl_from:Cl [70,82,79,77] [kt 26] := cl_kw _ 26 rfl rfl (by kernel_rfl) (by decide)
theorem cl_where:Cl [87,72,69,82,69] [kt 27] := cl_kw _ 27 rfl rfl (by kernel_rfl) (by decide)
theorem sp {r:List UInt8}:Sep (32 :: r) := sep_cons (.inl rfl)
def srcT:It := ⟨nT,nT,0,.nil,false⟩
def selSt (all:Bool) (items:List It) (t:T):St := ⟨115,[],items,[srcT],t,[],false,all,-1,0⟩
theorem p_all:pParse xAll = some (selSt true [] .nil) := by kernel_rfl
theorem more_join':∀ {ps:List Pc} {rest:List Tok} {acc:List It} {f:Nat},(∀ p ∈ ps,p.ok) -> ps ≠ [] -> endK (hd rest).k = true -> (hd rest).k ≠ 9 -> ps.length <= f -> more iValue f acc (joinT (ps.map (·.ts)) ++ rest) = some (acc ++ ps.map (fun p=>itV p.t),rest)
 | [],_,_,_,_,h,_,_,_=>absurd rfl h
 | [p],rest,acc,f,h,_,h8,h9,hf=>by
   cases f with
   | zero=>simp at hf
   | succ f =>
     have hv := (h p (by simp)).2.1 20 rest (Nat.le_refl _) h8
     have e:iValue (joinT ([p].map (·.ts)) ++ rest) = some (itV p.t,rest) := by
       unfold iValue
       show (match pVal 20 (p.ts ++ rest) with | none=>none | some (x,r)=>some (_,r)) = _
       rw [show pVal 20 (p.ts ++ rest) = some (p.t,rest) from hv]
       rfl
     unfold more
     rw [e]
     simp only
     rw [if_neg h9]
     rfl
 | p :: q :: r,rest,acc,f,h,_,h8,h9,hf=>by
   cases f with
   | zero=>simp at hf
   | succ f =>
     have hv := (h p (by simp)).2.1 20 (kt 9 :: (joinT ((q :: r).map (·.ts)) ++ rest)) (Nat.le_refl _) rfl
     have e:iValue (joinT ((p :: q :: r).map (·.ts)) ++ rest) = some (itV p.t,kt 9 :: (joinT ((q :: r).map (·.ts)) ++ rest)) := by
       have e1:joinT ((p :: q :: r).map (·.ts)) ++ rest = p.ts ++ kt 9 :: (joinT ((q :: r).map (·.ts)) ++ rest) := by simp [joinT]
       rw [e1]
       unfold iValue
       rw [show pVal 20 (p.ts ++ kt 9 :: (joinT ((q :: r).map (·.ts)) ++ rest)) = some (p.t,_) from hv]
       rfl
     unfold more
     rw [e]
     simp only
     rw [if_pos (show (hd (kt 9 :: (joinT ((q :: r).map (·.ts)) ++ rest))).k = 9 from rfl)]
     show more iValue f (acc ++ [itV p.t]) (joinT ((q :: r).map (·.ts)) ++ rest) = _
     rw [more_join' (fun a ha=>h a (by simp at ha ⊢; exact .inr ha)) (by simp) h8 h9 (by simp at hf ⊢; omega)]
     simp
end Pl
namespace Pl
open Go.Deep
set_option linter.unusedVariables false
set_option linter.unusedSimpArgs false
def tCols:List Col := [⟨nT,[97],1⟩,⟨nT,[98],2⟩,⟨nT,[99],3⟩]
def NumV (B:Int) (v:V):Prop := v = nul \/ ∃ n,v = nV n /\ -B <= n /\ n <= B
def BoolV (v:V):Prop := v = nul \/ ∃ b,v = tru b
def TRow (r:List V):Prop := ∃ a b c,r = [a,b,c] /\ NumV 5 a /\ (b = nul \/ ∃ s,b = tV s) /\ BoolV c
theorem vA_num (k:Nat):NumV 5 (vA k) := by
 unfold vA
 split
 · exact .inl rfl
 all_goals exact .inr ⟨_,rfl,by decide,by decide⟩
theorem rowT_t (v:Nat):TRow (rowT v) := ⟨_,_,_,rfl,vA_num _,by
 unfold vB
 split
 · exact .inl rfl
 all_goals exact .inr ⟨_,rfl⟩,by
 unfold vC'
 split
 · exact .inl rfl
 all_goals exact .inr ⟨_,rfl⟩⟩
theorem row0_t:TRow row0 := ⟨_,_,_,rfl,.inr ⟨5,rfl,by decide,by decide⟩,.inr ⟨_,rfl⟩,.inr ⟨true,rfl⟩⟩
structure NumOk (B:Int) (t:T):Prop where
 tc:tc tCols t = .ok 1 \/ tc tCols t = .ok 0
 ev:∀ r,TRow r -> ∃ v,ev tCols r t = .ok v /\ NumV B v
structure BoolOk (t:T):Prop where
 tc:tc tCols t = .ok 3 \/ tc tCols t = .ok 0
 ev:∀ r,TRow r -> ∃ v,ev tCols r t = .ok v /\ BoolV v
theorem ev_lit (k n:Int) (s:List UInt8) (cols:List Col) (row:List V):Pl.ev cols row (tLit k n s) = .ok ⟨k,n,s⟩ := rfl
theorem leafN_ok (k:Nat):NumOk 5 (leafN k).t := by
 unfold leafN
 split
 · exact ⟨.inl rfl,fun r ⟨a,b,c,h,ha,_⟩=>⟨a,by subst h; rfl,ha⟩⟩
 · exact ⟨.inl rfl,fun r _=>⟨nV 0,rfl,.inr ⟨0,rfl,by decide,by decide⟩⟩⟩
 · exact ⟨.inl rfl,fun r _=>⟨nV 1,rfl,.inr ⟨1,rfl,by decide,by decide⟩⟩⟩
 · exact ⟨.inl rfl,fun r _=>⟨nV 2,rfl,.inr ⟨2,rfl,by decide,by decide⟩⟩⟩
 · exact ⟨.inr rfl,fun r _=>⟨nul,rfl,.inl rfl⟩⟩
 · exact ⟨.inl rfl,fun r _=>⟨nV (-1),rfl,.inr ⟨-1,rfl,by decide,by decide⟩⟩⟩
 · exact ⟨.inl rfl,fun r ⟨a,b,c,h,ha,_⟩=>⟨a,by subst h; rfl,ha⟩⟩
theorem tc_two {op:Nat} {x y:T} {a b:Int} (h6:6 <= op) (hx:tc tCols x = .ok a) (hy:tc tCols y = .ok b):tc tCols (tTwo op x y) = fit op a b := by
 unfold tTwo
 rw [tc]
 rw [if_neg (show ¬ op = 0 by omega),if_neg (show ¬ op = 1 by omega),hx]
 simp only
 rw [if_neg (show ¬ op <= 5 by omega),hy]
theorem tc_one {op:Nat} {x:T} {a:Int} (h2:2 <= op) (h5:op <= 5) (hx:tc tCols x = .ok a):tc tCols (tOne op x) = fit op a a := by
 unfold tOne
 rw [tc]
 rw [if_neg (show ¬ op = 0 by omega),if_neg (show ¬ op = 1 by omega),hx]
 simp only
 rw [if_pos h5]
theorem ev_one {op:Nat} {x:T} {cols:List Col} {row:List V} {u:V} (h2:2 <= op) (h5:op <= 5) (hx:Pl.ev cols row x = .ok u):Pl.ev cols row (tOne op x) = ap1 op u := by
 unfold tOne
 rw [Pl.ev]
 rw [if_neg (show ¬ op = 0 by omega),if_neg (show ¬ op = 1 by omega),hx]
 simp only
 rw [if_pos h5]
theorem num_two {op:Nat} (h6:op = 6 \/ op = 7 \/ op = 8) {x y:T} {B C:Int} (hB:2 <= B) (hC:B * B <= C) (hC2:C <= 1000000) (hx:NumOk B x) (hy:NumOk B y):NumOk C (tTwo op x y) := by
 have hf:∀ a b:Int,(a = 1 \/ a = 0) -> (b = 1 \/ b = 0) -> fit op a b = .ok 1 := by
   intro a b ha hb
   rcases h6 with rfl | rfl | rfl <;> rcases ha with rfl | rfl <;> rcases hb with rfl | rfl <;> rfl
 refine ⟨.inl ?_,fun r hr=>?_⟩
 · rcases hx.tc with h1 | h1 <;> rcases hy.tc with h2 | h2 <;> rw [tc_two (by omega) h1 h2] <;> exact hf _ _ (by simp) (by simp)
 · obtain ⟨u,h1,hu⟩ := hx.ev r hr
   obtain ⟨v,h2,hv⟩ := hy.ev r hr
   rw [ev_two (by omega) (by omega) h1 h2]
   rcases hu with rfl | ⟨n,rfl,hn1,hn2⟩
   · exact ⟨nul,by rcases h6 with rfl | rfl | rfl <;> rfl,.inl rfl⟩
   · rcases hv with rfl | ⟨m,rfl,hm1,hm2⟩
     · exact ⟨nul,by rcases h6 with rfl | rfl | rfl <;> rfl,.inl rfl⟩
     · have hBB:2 * B <= B * B := Int.mul_le_mul_of_nonneg_right hB (by omega)
       have hnm : -(B * B) <= n * m /\ n * m <= B * B := by
         have h1:(n * m).natAbs <= B.natAbs * B.natAbs := by rw [Int.natAbs_mul]; exact Nat.mul_le_mul (by omega) (by omega)
         have h2:((B.natAbs * B.natAbs:Nat):Int) = B * B := by
           rw [Int.natCast_mul,Int.natAbs_of_nonneg (by omega)]
         omega
       rw [ap_of n m (by omega)]
       rcases h6 with rfl | rfl | rfl
       · refine ⟨nV (n + m),?_,.inr ⟨_,rfl,by omega,by omega⟩⟩
         show ranged (n + m) = _
         exact ranged_in ⟨by omega,by omega⟩
       · refine ⟨nV (n - m),?_,.inr ⟨_,rfl,by omega,by omega⟩⟩
         show ranged (n - m) = _
         exact ranged_in ⟨by omega,by omega⟩
       · refine ⟨nV (n * m),?_,.inr ⟨_,rfl,by omega,by omega⟩⟩
         show ranged (n * m) = _
         exact ranged_in ⟨by omega,by omega⟩
theorem NumOk.mono {B C:Int} {t:T} (h:NumOk B t) (hb:B <= C):NumOk C t := ⟨h.tc,fun r hr=>by
 obtain ⟨v,h1,h2⟩ := h.ev r hr
 exact ⟨v,h1,h2.imp id (fun ⟨n,a,b,c⟩=>⟨n,a,by omega,by omega⟩)⟩⟩
theorem opN_ok {k:Nat} {a b:Pc} {B C:Int} (hB:2 <= B) (hC:B * B <= C) (hC2:C <= 1000000) (ha:NumOk B a.t) (hb:NumOk B b.t):NumOk C (opN k a b).t := by
 unfold opN
 split
 · exact num_two (.inl rfl) hB hC hC2 ha hb
 · exact num_two (.inr (.inl rfl)) hB hC hC2 ha hb
 · exact num_two (.inr (.inr rfl)) hB hC hC2 ha hb
theorem numN_ok (raw:List Int) (i:Nat):NumOk 625 (numN raw 2 i).t := by
 have h0:∀ i,NumOk 5 (numN raw 0 i).t := fun i=>leafN_ok _
 have h1:∀ i,NumOk 25 (numN raw 1 i).t := fun i=>by
   rw [numN]
   split
   · exact (leafN_ok _).mono (by decide)
   · exact opN_ok (by decide) (by decide) (by decide) (h0 _) (h0 _)
 rw [numN]
 split
 · exact (leafN_ok _).mono (by decide)
 · exact opN_ok (by decide) (by decide) (by decide) (h1 _) (h1 _)
end Pl
namespace Pl
open Go.Deep
set_option linter.unusedVariables false
set_option linter.unusedSimpArgs false
theorem cmp_ok {op:Nat} (h1:11 <= op) (h2:op <= 16) {x y:T} {k:Int} (hx:tc tCols x = .ok k \/ tc tCols x = .ok 0) (hy:tc tCols y = .ok k \/ tc tCols y = .ok 0) (ex:∀ r,TRow r -> ∃ v,Pl.ev tCols r x = .ok v) (ey:∀ r,TRow r -> ∃ v,Pl.ev tCols r y = .ok v):BoolOk (tTwo op x y) := by
 have hf:∀ a b:Int,(a = k \/ a = 0) -> (b = k \/ b = 0) -> fit op a b = .ok 3 := by
   intro a b ha hb
   have ht:takes op = 0 := by
     unfold takes
     rw [if_neg (by omega),if_pos (by omega)]
   have hg:gives op = 3 := by
     unfold gives
     rw [if_neg (by omega)]
   unfold fit
   rw [ht,hg,if_pos]
   rcases ha with rfl | rfl <;> rcases hb with rfl | rfl <;> simp [alike]
 refine ⟨.inl ?_,fun r hr=>?_⟩
 · rcases hx with h | h <;> rcases hy with h' | h' <;> rw [tc_two (by omega) h h'] <;> exact hf _ _ (by simp) (by simp)
 · obtain ⟨u,hu⟩ := ex r hr
   obtain ⟨v,hv⟩ := ey r hr
   rw [ev_two (by omega) (by omega) hu hv]
   unfold ap2
   rw [if_neg (by omega)]
   split
   · exact ⟨nul,rfl,.inl rfl⟩
   · rw [if_neg (by omega)]
     exact ⟨_,rfl,.inr ⟨_,rfl⟩⟩
theorem NumOk.some {B:Int} {t:T} (h:NumOk B t):∀ r,TRow r -> ∃ v,Pl.ev tCols r t = .ok v := fun r hr=>by
 obtain ⟨v,h1,_⟩ := h.ev r hr
 exact ⟨v,h1⟩
theorem BoolOk.some {t:T} (h:BoolOk t):∀ r,TRow r -> ∃ v,Pl.ev tCols r t = .ok v := fun r hr=>by
 obtain ⟨v,h1,_⟩ := h.ev r hr
 exact ⟨v,h1⟩
theorem not_ok {x:T} (h:BoolOk x):BoolOk (tOne 3 x) := by
 refine ⟨.inl ?_,fun r hr=>?_⟩
 · rcases h.tc with h | h <;> rw [tc_one (by omega) (by omega) h] <;> rfl
 · obtain ⟨v,h1,h2⟩ := h.ev r hr
   rw [ev_one (by omega) (by omega) h1]
   rcases h2 with rfl | ⟨b,rfl⟩
   · exact ⟨nul,rfl,.inl rfl⟩
   · exact ⟨tru (!b),by cases b <;> rfl,.inr ⟨_,rfl⟩⟩
theorem is_ok {x:T} {k:Int} (ht:tc tCols x = .ok k) (he:∀ r,TRow r -> ∃ v,Pl.ev tCols r x = .ok v):BoolOk (tOne 4 x) := by
 refine ⟨.inl ?_,fun r hr=>?_⟩
 · rw [tc_one (by omega) (by omega) ht]
   unfold fit
   rw [show takes 4 = 0 from rfl,if_pos (by simp [alike])]
   rfl
 · obtain ⟨v,h1⟩ := he r hr
   rw [ev_one (by omega) (by omega) h1]
   exact ⟨_,rfl,.inr ⟨_,rfl⟩⟩
theorem ev_join {op:Nat} {x y:T} {row:List V} {u v:V} (h:op = 17 \/ op = 18) (hx:Pl.ev tCols row x = .ok u) (hy:Pl.ev tCols row y = .ok v):Pl.ev tCols row (tTwo op x y) = .ok u \/ Pl.ev tCols row (tTwo op x y) = .ok (joined u v (tru (op == 18))) := by
 have e:Pl.ev tCols row (tTwo op x y) = @ite _ (17 <= op /\ u = tru (op == 18)) (@instDecidableAnd _ _ _ (decV u (tru (op == 18)))) (.ok u) (ap2 op u v) := by
   unfold tTwo
   rw [Pl.ev]
   rw [if_neg (show ¬ op = 0 by omega),if_neg (show ¬ op = 1 by omega),hx]
   simp only
   rw [if_neg (show ¬ op <= 5 by omega),hy]
 rw [e]
 split
 · exact .inl rfl
 · right
   unfold ap2
   rw [if_pos h]
theorem join_ok {op:Nat} (h:op = 17 \/ op = 18) {x y:T} (hx:BoolOk x) (hy:BoolOk y):BoolOk (tTwo op x y) := by
 have hf:∀ a b:Int,(a = 3 \/ a = 0) -> (b = 3 \/ b = 0) -> fit op a b = .ok 3 := by
   intro a b ha hb
   rcases h with rfl | rfl <;> rcases ha with rfl | rfl <;> rcases hb with rfl | rfl <;> rfl
 refine ⟨.inl ?_,fun r hr=>?_⟩
 · rcases hx.tc with h1 | h1 <;> rcases hy.tc with h2 | h2 <;> rw [tc_two (by omega) h1 h2] <;> exact hf _ _ (by simp) (by simp)
 · obtain ⟨u,h1,h2⟩ := hx.ev r hr
   obtain ⟨v,h3,h4⟩ := hy.ev r hr
   rcases ev_join h h1 h3 with e | e
   · exact ⟨u,e,h2⟩
   · refine ⟨_,e,?_⟩
     unfold joined
     split
     · exact h4
     · exact h2
theorem nameA_num:NumOk 5 (tName [] nA) := ⟨.inl rfl,fun r ⟨a,b,c,h,ha,_⟩=>⟨a,by subst h; rfl,ha⟩⟩
theorem lit_num (n:Int) (h1 : -5 <= n) (h2:n <= 5):NumOk 5 (tLit 1 n []) := ⟨.inl rfl,fun r _=>⟨nV n,rfl,.inr ⟨n,rfl,h1,h2⟩⟩⟩
theorem leafC_ok (k:Nat):BoolOk (leafC k).t := by
 unfold leafC
 split
 · exact ⟨.inl rfl,fun r ⟨a,b,c,h,_,_,hc⟩=>⟨c,by subst h; rfl,hc⟩⟩
 · exact ⟨.inl rfl,fun r _=>⟨tru true,rfl,.inr ⟨true,rfl⟩⟩⟩
 · exact ⟨.inl rfl,fun r _=>⟨tru false,rfl,.inr ⟨false,rfl⟩⟩⟩
 · exact ⟨.inr rfl,fun r _=>⟨nul,rfl,.inl rfl⟩⟩
 · exact cmp_ok (by omega) (by omega) nameA_num.tc (lit_num 1 (by decide) (by decide)).tc nameA_num.some (lit_num 1 (by decide) (by decide)).some
 · exact cmp_ok (k := 2) (by omega) (by omega) (.inl rfl) (.inl rfl) (fun r _=>⟨_,rfl⟩) (fun r _=>⟨_,rfl⟩)
 · exact cmp_ok (by omega) (by omega) nameA_num.tc (lit_num 2 (by decide) (by decide)).tc nameA_num.some (lit_num 2 (by decide) (by decide)).some
 · exact is_ok (k := 2) rfl (fun r _=>⟨_,rfl⟩)
 · exact ⟨.inl rfl,fun r ⟨a,b,c,h,_,_,hc⟩=>⟨c,by subst h; rfl,hc⟩⟩
theorem cmpC_ok {k:Nat} {a b:Pc} {ty:Int} (hx:tc tCols a.t = .ok ty \/ tc tCols a.t = .ok 0) (hy:tc tCols b.t = .ok ty \/ tc tCols b.t = .ok 0) (ex:∀ r,TRow r -> ∃ v,Pl.ev tCols r a.t = .ok v) (ey:∀ r,TRow r -> ∃ v,Pl.ev tCols r b.t = .ok v):BoolOk (cmpC k a b).t := by
 unfold cmpC
 split <;> exact cmp_ok (by omega) (by omega) hx hy ex ey
theorem condN_ok (raw:List Int):∀ (d i:Nat),BoolOk (condN raw d i).t
 | 0,i=>leafC_ok _
 | d + 1,i=>by
   have h1 := condN_ok raw d (i + 1)
   have h3 := condN_ok raw d (i + 3)
   rw [condN]
   split
   · exact not_ok h1
   · exact join_ok (.inl rfl) h1 h3
   · exact join_ok (.inr rfl) h1 h3
   · rcases h1.tc with h | h
     · exact is_ok h h1.some
     · exact is_ok h h1.some
   · exact cmpC_ok h1.tc h3.tc h1.some h3.some
   · exact cmpC_ok (numN_ok raw _).tc (numN_ok raw _).tc (numN_ok raw _).some (numN_ok raw _).some
def evV (t:T) (r:List V):V := match Pl.ev tCols r t with
 | .ok v=>v
 | .error _=>nul
theorem evV_ok {t:T} (h:BoolOk t) {r:List V} (hr:TRow r):Pl.ev tCols r t = .ok (evV t r) /\ BoolV (evV t r) := by
 obtain ⟨v,h1,h2⟩ := h.ev r hr
 unfold evV
 rw [h1]
 exact ⟨rfl,h2⟩
end Pl
namespace Pl
open Go.Deep
set_option linter.unusedVariables false
set_option linter.unusedSimpArgs false
theorem isort_all {α:Type} {le:α -> α -> Bool} (h:∀ a b,le a b = true):∀ l:List α,isort le l = l
 | []=>rfl
 | x :: xs=>by
   rw [isort,isort_all h xs]
   cases xs with
   | nil=>rfl
   | cons y ys=>rw [ins,if_pos (h x y)]
theorem zip_snd:∀ {a b:List (List V)},a.length = b.length -> (a.zip b).map (·.2) = b
 | [],[],_=>rfl
 | _ :: as,b :: bs,h=>by simp [zip_snd (a := as) (b := bs) (by simpa using h)]
 | [],_ :: _,h=>by simp at h
 | _ :: _,[],h=>by simp at h
theorem sorted_none {rows ranks:List (List V)} (h:ranks.length = rows.length):sorted rows ranks [] = rows := by
 unfold sorted
 rw [isort_all (fun a b=>by simp [cmpRanks]),zip_snd h]
def isYes (t:T) (r:List V):Bool := V.same (evV t r) (tru true)
theorem sift_ev {t:T} (h:BoolOk t):∀ {rows:List (List V)},(∀ r ∈ rows,TRow r) -> sift tCols t rows = .ok (rows.filter (isYes t),rows.filter (fun r=>!isYes t r))
 | [],_=>rfl
 | r :: rs,hr=>by
   have ih := sift_ev h (rows := rs) (fun x hx=>hr x (by simp [hx]))
   rw [sift,(evV_ok h (hr r (by simp))).1]
   simp only
   rw [ih]
   simp only
   by_cases hy:evV t r = tru true
   · have:isYes t r = true := V.same_yes hy
     rw [if_pos hy]
     simp [this]
   · have:isYes t r = false := V.same_no hy
     rw [if_neg hy]
     simp [this]
theorem evRows_map {cols:List Col} {ts:List T} {f:List V -> List V}:∀ {rows:List (List V)},(∀ r ∈ rows,evAll cols r ts = .ok (f r)) -> evRows cols ts rows = .ok (rows.map f)
 | [],_=>rfl
 | r :: rs,h=>by
   rw [evRows,h r (by simp)]
   simp only
   rw [evRows_map (fun x hx=>h x (by simp [hx]))]
   rfl
theorem tcAs_bool {t:T} (h:BoolOk t):tcAs tCols t 3 = none := by
 unfold tcAs
 rcases h.tc with h | h <;> rw [h] <;> rfl
theorem true_ok:BoolOk (cond .nil) := ⟨.inl rfl,fun r _=>⟨tru true,rfl,.inr ⟨true,rfl⟩⟩⟩
theorem window_all (rows:List (List V)):window rows 0 (-1) = rows := by simp [window]
theorem sel_done {rt ru:List (List V)} (hr:∀ r ∈ rt,TRow r) {all:Bool} {items:List It} {wh:T} (hw:BoolOk (cond wh)) {f:List V -> List V} (htc:tcAll tCols (valuesOf (selSt all items wh) tCols) = none) (hf:∀ r,TRow r -> evAll tCols r (valuesOf (selSt all items wh) tCols) = .ok (f r)) {text:List UInt8} (hp:pParse text = some (selSt all items wh)):exec (bTab rt ru) text = (bTab rt ru,⟨(rt.filter (isYes (cond wh))).map f,0,0⟩) := by
 rw [exec_select hp rfl]
 have s1:srcsGo (bTab rt ru) [] (selSt all items wh).sources = .ok [0] := by
   show srcsGo (bTab rt ru) [] [srcT] = _
   simp [srcsGo,srcT,tab_t]
 have c1:scopes (bTab rt ru) [0] (selSt all items wh).sources = tCols := rfl
 rw [doSelect_of (s := selSt all items wh) (is := [0]) (cols := tCols) (rows := rt) s1 c1 rfl htc (tcAs_bool hw) rfl rfl]
 have hch:chosen tCols (selSt all items wh) rt = .ok ((rt.filter (isYes (cond wh))).map f) := by
   unfold chosen
   rw [show (selSt all items wh).whr = wh from rfl,sift_ev hw hr]
   simp only
   have hk:evRows tCols ((selSt all items wh).keys.map (·.tree)) (rt.filter (isYes (cond wh))) = .ok ((rt.filter (isYes (cond wh))).map (fun _=>[])) := evRows_map (f := fun _=>[]) (fun r _=>rfl)
   rw [hk]
   simp only
   rw [show (selSt all items wh).keys.map (·.mark) = [] from rfl,sorted_none (by simp),evRows_map (f := f) (fun r hr' => hf r (hr r (List.mem_filter.1 hr').1))]
   simp only
   show Except.ok (window (if false = true then _ else _) 0 (-1)) = _
   rw [if_neg (by simp),window_all]
 rw [hch]
theorem star_tc (wh:T):tcAll tCols (valuesOf (selSt true [] wh) tCols) = none := rfl
theorem star_ev (wh:T) (r:List V) (h:TRow r):evAll tCols r (valuesOf (selSt true [] wh) tCols) = .ok (id r) := by
 obtain ⟨a,b,c,rfl,_⟩ := h
 rfl
theorem all_exec {rt ru:List (List V)} (hr:∀ r ∈ rt,TRow r):exec (bTab rt ru) xAll = (bTab rt ru,⟨rt,0,0⟩) := by
 have h := sel_done (ru := ru) hr (wh := .nil) true_ok (star_tc .nil) (star_ev .nil) p_all
 have e:rt.filter (isYes (cond .nil)) = rt := List.filter_eq_self.2 (fun r _=>rfl)
 rw [h,e]
 simp
theorem baseGo_len:∀ {cs:List Int} {i:Nat} {rt ru:List (List V)},i <= 14 -> rt.length <= i / 2 + i % 2 + 1 -> ru.length <= i / 2 -> (baseGo i cs rt ru).1.length <= 8 /\ (baseGo i cs rt ru).2.length <= 7 /\ rt.length <= (baseGo i cs rt ru).1.length
 | [],i,rt,ru,hi,h1,h2=>by simp only [baseGo]; omega
 | c :: cs,i,rt,ru,hi,h1,h2=>by
   rw [baseGo]
   split
   · simp only; omega
   · split
     · have := baseGo_len (cs := cs) (i := i + 1) (rt := rt ++ [rowT (pickN c 1099511627776)]) (ru := ru) (by omega) (by simp; omega) (by omega)
       simp at this
       omega
     · have := baseGo_len (cs := cs) (i := i + 1) (rt := rt) (ru := ru ++ [rowU (pickN c 1099511627776)]) (by omega) (by omega) (by simp; omega)
       omega
theorem base_len (raw:List Int):(baseRows raw).1.length <= 8 /\ (baseRows raw).2.length <= 7 /\ 1 <= (baseRows raw).1.length := by
 have := baseGo_len (cs := raw) (i := 0) (rt := [row0]) (ru := []) (by omega) (by simp) (by simp)
 simpa [baseRows] using this
end Pl
namespace Pl
open Go.Deep
set_option linter.unusedVariables false
set_option linter.unusedSimpArgs false
theorem cmpC_7 (k:Nat) (a b:Pc):(hd (cmpC k a b).ts).k = 7 := by
 unfold cmpC
 split <;> rfl
def isNo (t:T) (r:List V):Bool := V.same (evV t r) (tru false)
def isNil (t:T) (r:List V):Bool := V.same (evV t r) nul
theorem k_all:∃ s,pParse xAll = some s /\ s.kind = 115 /\ s.distinct = false /\ s.sources.length = 1 := ⟨_,p_all,rfl,rfl,rfl⟩
theorem three {t:T} (h:BoolOk t) {r:List V} (hr:TRow r):(evV t r = nul /\ isNil t r = true /\ isYes t r = false /\ isNo t r = false) \/ (evV t r = tru true /\ isNil t r = false /\ isYes t r = true /\ isNo t r = false) \/ (evV t r = tru false /\ isNil t r = false /\ isYes t r = false /\ isNo t r = true) := by
 unfold isNil isYes isNo
 rcases (evV_ok h hr).2 with e | ⟨b,e⟩
 · rw [e]; exact .inl ⟨rfl,rfl,rfl,rfl⟩
 · rw [e]
   cases b
   · exact .inr (.inr ⟨rfl,rfl,rfl,rfl⟩)
   · exact .inr (.inl ⟨rfl,rfl,rfl,rfl⟩)
end Pl
end Go.Proofs.YtojdpjpldokjmaaGreatDoor
