/- The key of a row: one for rows that are the same, and for no others. Plainly. -/
import Derived.Test.YtojdpjpldokjmaaGreatDoorO04
import Derived.Lib.ItoaNum
import Derived.Test.YtojdpjpldokjmaaGreatDoorO05
set_option maxHeartbeats 60000000
set_option maxRecDepth 100000
namespace Go.Proofs.YtojdpjpldokjmaaGreatDoor.Pl
open Go
set_option linter.unusedSimpArgs false
set_option linter.unusedVariables false
theorem dig_mem (u:Nat):∀ b:UInt8,b ∈ Lib.decDigits u -> 48 <= b.toNat /\ b.toNat <= 57 := by
 induction u using Nat.strongRecOn with
 | _ u ih =>
   intro b h
   rw [Lib.decDigits] at h
   split at h
   · simp at h
     subst h
     simp [UInt8.toNat_ofNat']
     omega
   · rename_i hu
     rcases List.mem_append.1 h with h | h
     · exact ih (u / 10) (by omega) b h
     · simp at h
       subst h
       simp [UInt8.toNat_ofNat']
       omega
def digV (l:List UInt8):Nat := l.foldl (fun a b=>a * 10 + (b.toNat - 48)) 0
theorem dig_val (u:Nat):digV (Lib.decDigits u) = u := by
 induction u using Nat.strongRecOn with
 | _ u ih =>
   rw [Lib.decDigits]
   split
   · rename_i hu
     simp [digV,UInt8.toNat_ofNat']
     omega
   · rename_i hu
     have ih := ih (u / 10) (by omega)
     unfold digV at ih ⊢
     rw [List.foldl_append,ih]
     simp [UInt8.toNat_ofNat']
     omega
theorem dig_inj {a b:Nat} (h:Lib.decDigits a = Lib.decDigits b):a = b := by
 have := congrArg digV h
 rwa [dig_val,dig_val] at this
theorem dig_45 {a:Nat} {l:List UInt8} (h:Lib.decDigits a = 45 :: l):False := by
 have := dig_mem a 45 (by rw [h]; simp)
 simp at this
theorem itoa_inj {a b:Int} (h:Lib.itoa a = Lib.itoa b):a = b := by
 unfold Lib.itoa at h
 split at h <;> split at h
 · injection h with _ h
   have := dig_inj h
   omega
 · exact (dig_45 h.symm).elim
 · exact (dig_45 h).elim
 · have := dig_inj h
   omega
theorem itoa_32 (a:Int):(32:UInt8) ∉ Lib.itoa a := by
 unfold Lib.itoa
 split
 · intro h
   simp at h
   have := dig_mem _ _ h
   simp at this
 · intro h
   have := dig_mem _ _ h
   simp at this
theorem cut32:∀ {x x' y y':List UInt8},(32:UInt8) ∉ x -> (32:UInt8) ∉ x' -> x ++ 32 :: y = x' ++ 32 :: y' -> x = x' /\ y = y'
 | [],[],y,y',_,_,h=>by simpa using h
 | [],b :: x',y,y',_,h2,h=>by simp at h; exact absurd h.1 (by rintro rfl; simp at h2)
 | a :: x,[],y,y',h1,_,h=>by simp at h; exact absurd h.1 (by rintro rfl; simp at h1)
 | a :: x,b :: x',y,y',h1,h2,h=>by
   simp at h h1 h2
   obtain ⟨rfl,h⟩ := h
   obtain ⟨e,e2⟩ := cut32 h1.2 h2.2 h
   exact ⟨by rw [e],e2⟩
def keyV (v:V):List UInt8 := Lib.itoa v.kind ++ (32 :: (Lib.itoa v.n ++ (32 :: (Lib.itoa (v.s.length:Nat) ++ (32 :: v.s)))))
def keyR (row:List V):List UInt8 := row.flatMap keyV
theorem key_inj:∀ {a b:List V},keyR a = keyR b -> a = b
 | [],[],_=>rfl
 | [],v :: b,h=>by
   have := congrArg List.length h
   simp [keyR,keyV] at this
 | v :: a,[],h=>by
   have := congrArg List.length h
   simp [keyR,keyV] at this
 | v :: a,u :: b,h=>by
   have hc:∀ (x:V) (l:List V),keyR (x :: l) = Lib.itoa x.kind ++ (32 :: (Lib.itoa x.n ++ (32 :: (Lib.itoa (x.s.length:Nat) ++ (32 :: (x.s ++ keyR l)))))) := fun x l=>by
     unfold keyR
     rw [List.flatMap_cons]
     simp [keyV]
   rw [hc,hc] at h
   obtain ⟨h1,h⟩ := cut32 (itoa_32 _) (itoa_32 _) h
   obtain ⟨h2,h⟩ := cut32 (itoa_32 _) (itoa_32 _) h
   obtain ⟨h3,h⟩ := cut32 (itoa_32 _) (itoa_32 _) h
   have hl:v.s.length = u.s.length := by have := itoa_inj h3; omega
   obtain ⟨h4,h5⟩ := List.append_inj h hl
   have ih := key_inj h5
   obtain ⟨k,n,s⟩ := v
   obtain ⟨k',n',s'⟩ := u
   have e1 := itoa_inj h1
   have e2 := itoa_inj h2
   simp at e1 e2 h4
   rw [ih,e1,e2,h4]
theorem rowSame_iff:∀ (a b:List V),rowSame a b = true ↔ a = b
 | [],[]=>by simp [rowSame]
 | [],b :: bs=>by simp [rowSame]
 | a :: as,[]=>by simp [rowSame]
 | a :: as,b :: bs=>by simp [rowSame,V.same_iff,rowSame_iff as bs]
end Go.Proofs.YtojdpjpldokjmaaGreatDoor.Pl
namespace Go.Proofs.YtojdpjpldokjmaaGreatDoor
namespace Pl
open Go.Deep
set_option linter.unusedVariables false
set_option linter.unusedSimpArgs false
def cX (k:Nat):List UInt8 := match k with
 | 0=>[116,46,97]
 | 1=>[98]
 | _=>[99]
def cT (k:Nat):T := match k with
 | 0=>tName nT nA
 | 1=>tName [] nB
 | _=>tName [] nC
def colV (k:Nat) (r:List V):V := r.getD k nul
def xUp (k:Nat):List UInt8 := [83,69,76,69,67,84,32,42,32,70,82,79,77,32,116,32,79,82,68,69,82,32,66,89,32] ++ cX k
def xDown (k:Nat):List UInt8 := xUp k ++ [32,68,69,83,67]
def xPart (k n m:Nat):List UInt8 := (((xUp k ++ [32,76,73,77,73,84,32]) ++ dec n) ++ [32,79,70,70,83,69,84,32]) ++ dec m
def xOnce (k:Nat):List UInt8 := (([83,69,76,69,67,84,32,68,73,83,84,73,78,67,84,32] ++ cX k) ++ [32,70,82,79,77,32,116,32,79,82,68,69,82,32,66,89,32]) ++ cX k
def keyI (k:Nat) (down:Bool):It := ⟨[],[],0,cT k,down⟩
def oSt (all:Bool) (items:List It) (k:Nat) (down dis:Bool) (lim off:Int):St := ⟨115,[],items,[srcT],.nil,[keyI k down],dis,all,lim,off⟩
theorem p_up {k:Nat} (hk:k < 3):pParse (xUp k) = some (oSt true [] k false false (-1) 0) := by
 match k,hk with
 | 0,_=>exact (show pParse (xUp 0) = some (oSt true [] 0 false false (-1) 0) by kernel_rfl)
 | 1,_=>exact (show pParse (xUp 1) = some (oSt true [] 1 false false (-1) 0) by kernel_rfl)
 | 2,_=>exact (show pParse (xUp 2) = some (oSt true [] 2 false false (-1) 0) by kernel_rfl)
theorem p_down {k:Nat} (hk:k < 3):pParse (xDown k) = some (oSt true [] k true false (-1) 0) := by
 match k,hk with
 | 0,_=>exact (show pParse (xDown 0) = some (oSt true [] 0 true false (-1) 0) by kernel_rfl)
 | 1,_=>exact (show pParse (xDown 1) = some (oSt true [] 1 true false (-1) 0) by kernel_rfl)
 | 2,_=>exact (show pParse (xDown 2) = some (oSt true [] 2 true false (-1) 0) by kernel_rfl)
theorem p_once {k:Nat} (hk:k < 3):pParse (xOnce k) = some (oSt false [itV (cT k)] k false true (-1) 0) := by
 match k,hk with
 | 0,_=>exact (show pParse (xOnce 0) = some (oSt false [itV (cT 0)] 0 false true (-1) 0) by kernel_rfl)
 | 1,_=>exact (show pParse (xOnce 1) = some (oSt false [itV (cT 1)] 1 false true (-1) 0) by kernel_rfl)
 | 2,_=>exact (show pParse (xOnce 2) = some (oSt false [itV (cT 2)] 2 false true (-1) 0) by kernel_rfl)
theorem parts0:(List.range 81).map (fun i=>pParse (xPart 0 (i / 9) (i % 9))) = (List.range 81).map (fun i=>some (oSt true [] 0 false false ((i / 9:Nat):Int) ((i % 9:Nat):Int))) := by kernel_rfl
theorem parts1:(List.range 81).map (fun i=>pParse (xPart 1 (i / 9) (i % 9))) = (List.range 81).map (fun i=>some (oSt true [] 1 false false ((i / 9:Nat):Int) ((i % 9:Nat):Int))) := by kernel_rfl
theorem parts2:(List.range 81).map (fun i=>pParse (xPart 2 (i / 9) (i % 9))) = (List.range 81).map (fun i=>some (oSt true [] 2 false false ((i / 9:Nat):Int) ((i % 9:Nat):Int))) := by kernel_rfl
theorem part_of {f g:Nat -> Option St} (h:(List.range 81).map f = (List.range 81).map g) {i:Nat} (hi:i < 81):f i = g i := by
 have := congrArg (fun l=>l[i]?) h
 simpa [hi] using this
theorem p_part {k n m:Nat} (hk:k < 3) (hn:n < 9) (hm:m < 9):pParse (xPart k n m) = some (oSt true [] k false false (n:Int) (m:Int)) := by
 have e1:(n * 9 + m) / 9 = n := by omega
 have e2:(n * 9 + m) % 9 = m := by omega
 match k,hk with
 | 0,_=>have h := part_of parts0 (i := n * 9 + m) (by omega); rw [e1,e2] at h; exact h
 | 1,_=>have h := part_of parts1 (i := n * 9 + m) (by omega); rw [e1,e2] at h; exact h
 | 2,_=>have h := part_of parts2 (i := n * 9 + m) (by omega); rw [e1,e2] at h; exact h
def leU (k:Nat) (a b:List V):Bool := decide (ordT (colV k a) (colV k b) <= 0)
def leD (k:Nat) (a b:List V):Bool := decide (ordT (colV k b) (colV k a) <= 0)
theorem ord_up (k:Nat):Ord (leU k) := ⟨fun a b=>tri_ordT.ord.total _ _,fun a b d h1 h2=>tri_ordT.ord.trans (colV k a) (colV k b) (colV k d) h1 h2⟩
theorem ord_down (k:Nat):Ord (leD k) := ⟨fun a b=>tri_ordT.ord.total _ _,fun a b d h1 h2=>tri_ordT.ord.trans (colV k d) (colV k b) (colV k a) h2 h1⟩
def ups (k:Nat) (rt:List (List V)):List (List V) := isort (leU k) rt
def downs (k:Nat) (rt:List (List V)):List (List V) := isort (leD k) rt
theorem ins_map {α β:Type} {le:α -> α -> Bool} {le':β -> β -> Bool} {f:α -> β} {x:α}:∀ {l:List α},(∀ y ∈ l,le' (f x) (f y) = le x y) -> ins le' (f x) (l.map f) = (ins le x l).map f
 | [],_=>rfl
 | y :: ys,h=>by
   rw [List.map_cons,ins,ins,h y (by simp)]
   split
   · rfl
   · rw [ins_map (l := ys) (fun z hz=>h z (by simp [hz]))]; rfl
theorem isort_map {α β:Type} {le:α -> α -> Bool} {le':β -> β -> Bool} {f:α -> β}:∀ {l:List α},(∀ x ∈ l,∀ y ∈ l,le' (f x) (f y) = le x y) -> isort le' (l.map f) = (isort le l).map f
 | [],_=>rfl
 | x :: xs,h=>by
   rw [List.map_cons,isort,isort,isort_map (l := xs) (fun a ha b hb=>h a (by simp [ha]) b (by simp [hb]))]
   exact ins_map (fun y hy=>h x (by simp) y (by simp [isort_mem hy]))
theorem col_type {k:Nat} (hk:k < 3) {r:List V} (h:TRow r):ofType ((k:Int) + 1) (colV k r) := by
 obtain ⟨a,b,c,rfl,h1,h2,h3⟩ := h
 match k,hk with
 | 0,_ =>
   rcases h1 with rfl | ⟨n,rfl,_⟩
   · exact .inl rfl
   · exact .inr rfl
 | 1,_ =>
   rcases h2 with rfl | ⟨n,rfl⟩
   · exact .inl rfl
   · exact .inr rfl
 | 2,_ =>
   rcases h3 with rfl | ⟨n,rfl⟩
   · exact .inl rfl
   · exact .inr rfl
theorem col_ev {k:Nat} (hk:k < 3) {r:List V} (h:TRow r):evAll tCols r [cT k] = .ok [colV k r] := by
 obtain ⟨a,b,c,rfl,h1,h2,h3⟩ := h
 match k,hk with
 | 0,_=>rfl
 | 1,_=>rfl
 | 2,_=>rfl
theorem zip_map (f:List V -> List V):∀ l:List (List V),(l.map f).zip l = l.map (fun r=>(f r,r))
 | []=>rfl
 | x :: xs=>by simp [zip_map f xs]
theorem cmp_one (a b:V) (d:Bool):cmpRanks [a] [b] [d] = if d = true then - order a b else order a b := by
 unfold cmpRanks
 split
 · rename_i h
   rw [h]
   unfold cmpRanks
   cases d <;> rfl
 · rfl
theorem sorted_col {k:Nat} (hk:k < 3) (down:Bool) {rt:List (List V)} (hr:∀ r ∈ rt,TRow r):sorted rt (rt.map (fun r=>[colV k r])) [down] = if down = true then downs k rt else ups k rt := by
 unfold sorted
 rw [zip_map]
 have e:∀ le:List V -> List V -> Bool,(∀ x ∈ rt,∀ y ∈ rt,decide (cmpRanks [colV k x] [colV k y] [down] <= 0) = le x y) -> (isort (fun a b=>decide (cmpRanks a.1 b.1 [down] <= 0)) (rt.map (fun r=>([colV k r],r)))).map (·.2) = isort le rt := fun le h=>by
   rw [isort_map (le := le) (f := fun r=>([colV k r],r)) (fun x hx y hy=>h x hx y hy),List.map_map]
   simp [Function.comp_def]
 cases down with
 | false =>
   rw [if_neg (by simp)]
   refine e _ (fun x hx y hy=>?_)
   rw [cmp_one,if_neg (by simp),order_ordT (col_type hk (hr x hx)) (col_type hk (hr y hy))]
   rfl
 | true =>
   rw [if_pos rfl]
   refine e _ (fun x hx y hy=>?_)
   rw [cmp_one,if_pos rfl,order_ordT (col_type hk (hr x hx)) (col_type hk (hr y hy)),<- tri_ordT.anti]
   rfl
theorem sel_ord {rt ru:List (List V)} (hr:∀ r ∈ rt,TRow r) {all:Bool} {items:List It} {k:Nat} (hk:k < 3) {down dis:Bool} {lim off:Int} {f:List V -> List V} (htc:tcAll tCols (valuesOf (oSt all items k down dis lim off) tCols) = none) (hf:∀ r,TRow r -> evAll tCols r (valuesOf (oSt all items k down dis lim off) tCols) = .ok (f r)) {text:List UInt8} (hp:pParse text = some (oSt all items k down dis lim off)):exec (bTab rt ru) text = (bTab rt ru,⟨window (if dis = true then once ((if down = true then downs k rt else ups k rt).map f) else (if down = true then downs k rt else ups k rt).map f) off lim,0,0⟩) := by
 rw [exec_select hp rfl]
 have s1:srcsGo (bTab rt ru) [] (oSt all items k down dis lim off).sources = .ok [0] := by
   show srcsGo (bTab rt ru) [] [srcT] = _
   simp [srcsGo,srcT,tab_t]
 have c1:scopes (bTab rt ru) [0] (oSt all items k down dis lim off).sources = tCols := rfl
 have k1:tcAll tCols ((oSt all items k down dis lim off).keys.map (·.tree)) = none := by
   show tcAll tCols [cT k] = none
   match k,hk with
   | 0,_=>rfl
   | 1,_=>rfl
   | 2,_=>rfl
 rw [doSelect_of (s := oSt all items k down dis lim off) (is := [0]) (cols := tCols) (rows := rt) s1 c1 rfl htc (tcAs_bool true_ok) k1 rfl]
 have e:rt.filter (isYes (cond .nil)) = rt := List.filter_eq_self.2 (fun r _=>rfl)
 have hch:chosen tCols (oSt all items k down dis lim off) rt = .ok (window (if dis = true then once ((if down = true then downs k rt else ups k rt).map f) else (if down = true then downs k rt else ups k rt).map f) off lim) := by
   unfold chosen
   rw [show (oSt all items k down dis lim off).whr = .nil from rfl,sift_ev true_ok hr]
   simp only
   rw [e]
   have hkk:evRows tCols ((oSt all items k down dis lim off).keys.map (·.tree)) rt = .ok (rt.map (fun r=>[colV k r])) := evRows_map (f := fun r=>[colV k r]) (fun r h=>col_ev hk (hr r h))
   rw [hkk]
   simp only
   rw [show (oSt all items k down dis lim off).keys.map (·.mark) = [down] from rfl,sorted_col hk down hr]
   have hm:∀ r ∈ (if down = true then downs k rt else ups k rt),TRow r := by
     intro r h
     split at h
     · exact hr r (isort_mem h)
     · exact hr r (isort_mem h)
   rw [evRows_map (f := f) (fun r h=>hf r (hm r h))]
   rfl
 rw [hch]
theorem star_tco (k:Nat) (down dis:Bool) (lim off:Int):tcAll tCols (valuesOf (oSt true [] k down dis lim off) tCols) = none := rfl
theorem star_evo (k:Nat) (down dis:Bool) (lim off:Int) (r:List V) (h:TRow r):evAll tCols r (valuesOf (oSt true [] k down dis lim off) tCols) = .ok (id r) := by
 obtain ⟨a,b,c,rfl,_⟩ := h
 rfl
theorem x_up {rt ru:List (List V)} (hr:∀ r ∈ rt,TRow r) {k:Nat} (hk:k < 3):exec (bTab rt ru) (xUp k) = (bTab rt ru,⟨ups k rt,0,0⟩) := by
 rw [sel_ord (ru := ru) hr hk (star_tco k _ _ _ _) (star_evo k _ _ _ _) (p_up hk)]
 simp [window_all]
theorem x_down {rt ru:List (List V)} (hr:∀ r ∈ rt,TRow r) {k:Nat} (hk:k < 3):exec (bTab rt ru) (xDown k) = (bTab rt ru,⟨downs k rt,0,0⟩) := by
 rw [sel_ord (ru := ru) hr hk (star_tco k _ _ _ _) (star_evo k _ _ _ _) (p_down hk)]
 simp [window_all]
theorem x_part {rt ru:List (List V)} (hr:∀ r ∈ rt,TRow r) {k:Nat} (hk:k < 3) {n m:Nat} (hn:n < 9) (hm:m < 9):exec (bTab rt ru) (xPart k n m) = (bTab rt ru,⟨((ups k rt).drop m).take n,0,0⟩) := by
 rw [sel_ord (ru := ru) hr hk (star_tco k _ _ _ _) (star_evo k _ _ _ _) (p_part hk hn hm)]
 simp [window]
 intro h
 omega
theorem x_once {rt ru:List (List V)} (hr:∀ r ∈ rt,TRow r) {k:Nat} (hk:k < 3):exec (bTab rt ru) (xOnce k) = (bTab rt ru,⟨once ((ups k rt).map (fun r=>[colV k r])),0,0⟩) := by
 have htc:tcAll tCols (valuesOf (oSt false [itV (cT k)] k false true (-1) 0) tCols) = none := by
   show tcAll tCols [cT k] = none
   match k,hk with
   | 0,_=>rfl
   | 1,_=>rfl
   | 2,_=>rfl
 rw [sel_ord (ru := ru) hr hk htc (fun r h=>col_ev hk h) (p_once hk)]
 simp [window_all]
end Pl
namespace Pl
open Go.Deep
set_option linter.unusedVariables false
set_option linter.unusedSimpArgs false
def hasV (k:Nat) (v:V) (r:List V):Bool := decide (k < r.length) && V.same (colV k r) v
theorem filter_ins {α:Type} {le:α -> α -> Bool} {p:α -> Bool} (h:∀ a b,p a = true -> p b = true -> le a b = true) (x:α):∀ l:List α,(ins le x l).filter p = (x :: l).filter p
 | []=>rfl
 | y :: ys=>by
   rw [ins]
   split
   · rfl
   · rename_i hn
     rw [List.filter_cons,filter_ins h x ys]
     cases hx:p x with
     | false=>simp [List.filter_cons,hx]
     | true =>
       have hy:p y = false := by
         cases hy:p y with
         | false=>rfl
         | true=>exact absurd (h x y hx hy) hn
       simp [List.filter_cons,hx,hy]
theorem filter_isort {α:Type} {le:α -> α -> Bool} {p:α -> Bool} (h:∀ a b,p a = true -> p b = true -> le a b = true):∀ l:List α,(isort le l).filter p = l.filter p
 | []=>rfl
 | x :: xs=>by rw [isort,filter_ins h,List.filter_cons,List.filter_cons,filter_isort h xs]
theorem ordT_same (v:V):ordT v v = 0 := by
 have := tri_ordT.anti v v
 omega
theorem hasV_col {k:Nat} {v:V} {r:List V} (h:hasV k v r = true):colV k r = v := by
 simp [hasV,V.same_iff] at h
 exact h.2
theorem ups_has (k:Nat) (v:V) (rt:List (List V)):(ups k rt).filter (hasV k v) = rt.filter (hasV k v) :=
 filter_isort (fun a b ha hb=>by simp [leU,hasV_col ha,hasV_col hb,ordT_same]) rt
theorem downs_has (k:Nat) (v:V) (rt:List (List V)):(downs k rt).filter (hasV k v) = rt.filter (hasV k v) :=
 filter_isort (fun a b ha hb=>by simp [leD,hasV_col ha,hasV_col hb,ordT_same]) rt
theorem ups_row {k:Nat} {rt:List (List V)} (hr:∀ r ∈ rt,TRow r):∀ r ∈ ups k rt,TRow r := fun r h=>hr r (isort_mem h)
theorem downs_row {k:Nat} {rt:List (List V)} (hr:∀ r ∈ rt,TRow r):∀ r ∈ downs k rt,TRow r := fun r h=>hr r (isort_mem h)
theorem ups_len (k:Nat) (rt:List (List V)):(ups k rt).length = rt.length := isort_len _ _
theorem downs_len (k:Nat) (rt:List (List V)):(downs k rt).length = rt.length := isort_len _ _
def ColV (k:Nat) (v:V):Prop := v = nul \/ (k = 0 /\ ∃ n,v = nV n) \/ (k = 1 /\ ∃ s,v = tV s) \/ (k = 2 /\ ∃ b,v = tru b)
theorem col_v {k:Nat} (hk:k < 3) {r:List V} (h:TRow r):ColV k (colV k r) := by
 obtain ⟨a,b,c,rfl,h1,h2,h3⟩ := h
 match k,hk with
 | 0,_ =>
   rcases h1 with rfl | ⟨n,rfl,_⟩
   · exact .inl rfl
   · exact .inr (.inl ⟨rfl,n,rfl⟩)
 | 1,_ =>
   rcases h2 with rfl | ⟨n,rfl⟩
   · exact .inl rfl
   · exact .inr (.inr (.inl ⟨rfl,n,rfl⟩))
 | 2,_ =>
   rcases h3 with rfl | ⟨n,rfl⟩
   · exact .inl rfl
   · exact .inr (.inr (.inr ⟨rfl,n,rfl⟩))
theorem bytes_zero:∀ {a b:List UInt8},Lib.compareBytes a b = 0 -> a = b
 | [],[],_=>rfl
 | [],_ :: _,h=>by simp [Lib.compareBytes] at h
 | _ :: _,[],h=>by simp [Lib.compareBytes] at h
 | x :: a,y :: b,h=>by
   unfold Lib.compareBytes at h
   simp only [u8_lt] at h
   split at h
   · omega
   · split at h
     · omega
     · rename_i h1 h2
       have e:x = y := UInt8.toNat_inj.1 (by omega)
       rw [e,bytes_zero h]
theorem nV_cmp (n m:Int):ordT (nV n) (nV m) = Lib.compareInt n m := rfl
theorem tV_cmp (s t:List UInt8):ordT (tV s) (tV t) = Lib.compareBytes s t := rfl
theorem col_zero {k:Nat} {a b:V} (ha:ColV k a) (hb:ColV k b) (h:ordT a b = 0):a = b := by
 rcases ha with rfl | ⟨rfl,n,rfl⟩ | ⟨rfl,n,rfl⟩ | ⟨rfl,n,rfl⟩ <;> rcases hb with rfl | ⟨h0,m,rfl⟩ | ⟨h0,m,rfl⟩ | ⟨h0,m,rfl⟩
 case inl.inl=>rfl
 case inr.inl.inr.inl=>rw [nV_cmp,cmpI_zero] at h; rw [h]
 case inr.inr.inl.inr.inr.inl=>rw [tV_cmp] at h; rw [bytes_zero h]
 case inr.inr.inr.inr.inr.inr=>cases n <;> cases m <;> first | rfl | (exact absurd h (by decide))
 all_goals first | (exact absurd h0 (by decide)) | (exact absurd h (by simp [ordT,nul,nV,tV,tru,Lib.compareInt]))
def befV (a b:V):Bool := decide (a.kind < b.kind) || (a.kind == b.kind) && (decide (a.n < b.n) || (a.n == b.n) && decide (Lib.compareBytes a.s b.s <= 0))
theorem col_bef {k:Nat} {a b:V} (ha:ColV k a) (hb:ColV k b) (h:ordT a b <= 0):befV a b = true := by
 rcases ha with rfl | ⟨rfl,n,rfl⟩ | ⟨rfl,n,rfl⟩ | ⟨rfl,n,rfl⟩ <;> rcases hb with rfl | ⟨h0,m,rfl⟩ | ⟨h0,m,rfl⟩ | ⟨h0,m,rfl⟩
 case inl.inl=>rfl
 case inr.inl.inr.inl =>
   rw [nV_cmp,cmpI_le] at h
   rcases Int.lt_or_eq_of_le h with h | h
   · simp [befV,nV,h]
   · subst h; simp [befV,nV,Lib.compareBytes]
 case inr.inr.inl.inr.inr.inl=>rw [tV_cmp] at h; simp [befV,tV,h]
 case inr.inr.inr.inr.inr.inr=>cases n <;> cases m <;> first | rfl | (exact absurd h (by decide))
 all_goals first | (exact absurd h0 (by decide)) | rfl | (exact absurd h (by simp [ordT,nul,nV,tV,tru,Lib.compareInt]))
theorem up_bef {k:Nat} (hk:k < 3) {rt:List (List V)} (hr:∀ r ∈ rt,TRow r) {i:Nat} {a b:List V} (ha:(ups k rt)[i]? = some a) (hb:(ups k rt)[i + 1]? = some b):befV (colV k a) (colV k b) = true := by
 have hs := isort_sorted (ord_up k) rt
 obtain ⟨h1,e1⟩ := List.getElem?_eq_some_iff.1 ha
 obtain ⟨h2,e2⟩ := List.getElem?_eq_some_iff.1 hb
 have h := List.pairwise_iff_getElem.1 hs i (i + 1) h1 h2 (by omega)
 replace h:leU k (ups k rt)[i] (ups k rt)[i + 1] = true := h
 rw [e1,e2] at h
 exact col_bef (col_v hk (ups_row hr a (List.mem_of_getElem? ha))) (col_v hk (ups_row hr b (List.mem_of_getElem? hb))) (by simpa [leU] using h)
theorem down_bef {k:Nat} (hk:k < 3) {rt:List (List V)} (hr:∀ r ∈ rt,TRow r) {i:Nat} {a b:List V} (ha:(downs k rt)[i]? = some a) (hb:(downs k rt)[i + 1]? = some b):befV (colV k b) (colV k a) = true := by
 have hs := isort_sorted (ord_down k) rt
 obtain ⟨h1,e1⟩ := List.getElem?_eq_some_iff.1 ha
 obtain ⟨h2,e2⟩ := List.getElem?_eq_some_iff.1 hb
 have h := List.pairwise_iff_getElem.1 hs i (i + 1) h1 h2 (by omega)
 replace h:leD k (downs k rt)[i] (downs k rt)[i + 1] = true := h
 rw [e1,e2] at h
 exact col_bef (col_v hk (downs_row hr b (List.mem_of_getElem? hb))) (col_v hk (downs_row hr a (List.mem_of_getElem? ha))) (by simpa [leD] using h)
def isIt:Option V -> V -> Bool
 | none,_=>false
 | some u,v=>V.same u v
theorem isIt_iff (p:Option V) (v:V):isIt p v = true ↔ p = some v := by
 cases p with
 | none=>simp [isIt]
 | some u=>simp [isIt,V.same_iff]
def adj:Option V -> List V -> List V
 | _,[]=>[]
 | p,v :: vs=>if isIt p v = true then adj (some v) vs else v :: adj (some v) vs
theorem adj_yes {v:V} {vs:List V}:adj (some v) (v :: vs) = adj (some v) vs := by rw [adj,if_pos ((isIt_iff _ _).2 rfl)]
theorem adj_no {p:Option V} {v:V} {vs:List V} (h:p ≠ some v):adj p (v :: vs) = v :: adj (some v) vs := by rw [adj,if_neg (fun e=>h ((isIt_iff _ _).1 e))]
def lastV:Option V -> List V -> Option V
 | p,[]=>p
 | _,v :: vs=>lastV (some v) vs
theorem adj_append:∀ (p:Option V) (a b:List V),adj p (a ++ b) = adj p a ++ adj (lastV p a) b
 | p,[],b=>by simp [adj,lastV]
 | p,v :: a,b=>by
   have ih := adj_append (some v) a b
   by_cases h:p = some v
   · subst h
     rw [List.cons_append,adj_yes,adj_yes,lastV,ih]
   · rw [List.cons_append,adj_no h,adj_no h,lastV,ih]
     rfl
theorem lastV_snoc:∀ (p:Option V) (a:List V) (v:V),lastV p (a ++ [v]) = some v
 | p,[],v=>rfl
 | p,u :: a,v=>by rw [List.cons_append,lastV]; exact lastV_snoc _ a v
theorem once_adj {k:Nat}:∀ {vs:List V} {met:List (List V)} {p:Option V},(∀ v ∈ vs,ColV k v) -> vs.Pairwise (fun a b=>ordT a b <= 0) -> (∀ m ∈ met,∃ u,m = [u] /\ ColV k u /\ (∀ v ∈ vs,ordT u v <= 0)) -> (∀ u,p = some u -> [u] ∈ met /\ ∀ m ∈ met,∃ x,m = [x] /\ ordT x u <= 0) -> (p = none -> met = []) -> onceGo met (vs.map (fun v=>[v])) = (adj p vs).map (fun v=>[v])
 | [],met,p,_,_,_,_,_=>by simp [onceGo,adj]
 | v :: vs,met,p,hc,hs,hm,hp,hn=>by
   obtain ⟨hs1,hs2⟩ := List.pairwise_cons.1 hs
   by_cases h:p = some v
   · subst h
     have hin:[v] ∈ met := (hp v rfl).1
     rw [List.map_cons,onceGo,if_pos (List.any_eq_true.2 ⟨[v],hin,(rowSame_iff _ _).2 rfl⟩),adj_yes]
     exact once_adj (fun x hx=>hc x (by simp [hx])) hs2 (fun m hm' => by
       obtain ⟨u,h1,h2,h3⟩ := hm m hm'
       exact ⟨u,h1,h2,fun x hx=>h3 x (by simp [hx])⟩) hp hn
   · have hout:[v] ∉ met := fun hin=>by
       cases p with
       | none=>rw [hn rfl] at hin; cases hin
       | some u =>
         obtain ⟨hu,hall⟩ := hp u rfl
         obtain ⟨x,e,hx⟩ := hall [v] hin
         injection e with e _
         subst e
         obtain ⟨y,e,hy1,hy2⟩ := hm [u] hu
         injection e with e _
         subst e
         have h1 := hy2 v (by simp)
         have h2 := tri_ordT.anti v u
         exact h (by rw [col_zero hy1 (hc v (by simp)) (by omega)])
     rw [List.map_cons,onceGo,if_neg (fun e=>by
       obtain ⟨x,hx,e⟩ := List.any_eq_true.1 e
       exact hout (by rw [(rowSame_iff _ _).1 e]; exact hx)),adj_no h,List.map_cons]
     congr 1
     refine once_adj (fun x hx=>hc x (by simp [hx])) hs2 (fun m hm' => ?_) (fun u e=>?_) (fun e=>by cases e)
     · rcases List.mem_append.1 hm' with hm' | hm'
       · obtain ⟨u,h1,h2,h3⟩ := hm m hm'
         exact ⟨u,h1,h2,fun x hx=>h3 x (by simp [hx])⟩
       · simp at hm'
         exact ⟨v,hm',hc v (by simp),hs1⟩
     · injection e with e
       subst e
       refine ⟨by simp,fun m hm' => ?_⟩
       rcases List.mem_append.1 hm' with hm' | hm'
       · obtain ⟨u,h1,h2,h3⟩ := hm m hm'
         exact ⟨u,h1,h3 v (by simp)⟩
       · simp at hm'
         exact ⟨v,hm',by rw [ordT_same]; exact Int.le_refl 0⟩
def colU (k:Nat) (rt:List (List V)):List V := (ups k rt).map (colV k)
theorem once_up {k:Nat} (hk:k < 3) {rt:List (List V)} (hr:∀ r ∈ rt,TRow r):once ((ups k rt).map (fun r=>[colV k r])) = (adj none (colU k rt)).map (fun v=>[v]) := by
 have e:(ups k rt).map (fun r=>[colV k r]) = (colU k rt).map (fun v=>[v]) := by simp [colU,Function.comp_def]
 rw [e]
 unfold once
 refine once_adj (k := k) (fun v hv=>?_) ?_ (fun m h=>by cases h) (fun u h=>by cases h) (fun _=>rfl)
 · obtain ⟨r,h,rfl⟩ := List.mem_map.1 hv
   exact col_v hk (ups_row hr r h)
 · unfold colU
   rw [List.pairwise_map]
   exact (isort_sorted (ord_up k) rt).imp (fun h=>by simpa [leU] using h)
def foundN (vs:List V) (i:Nat):Nat := (adj none (vs.take i)).length
theorem adj_len:∀ (p:Option V) (vs:List V),(adj p vs).length <= vs.length
 | _,[]=>by simp [adj]
 | p,v :: vs=>by
   have ih := adj_len (some v) vs
   by_cases h:p = some v
   · subst h; rw [adj_yes]; simp; omega
   · rw [adj_no h]; simp; omega
theorem found_last (vs:List V):foundN vs vs.length = (adj none vs).length := by unfold foundN; rw [List.take_length]
theorem take_snoc {vs:List V} {i:Nat} {v:V} (h:vs[i]? = some v):vs.take (i + 1) = vs.take i ++ [v] := by
 obtain ⟨hl,e⟩ := List.getElem?_eq_some_iff.1 h
 rw [<- e]; exact (List.take_append_getElem hl).symm
theorem last_take {vs:List V}:∀ {i:Nat} {u:V},vs[i]? = some u -> lastV none (vs.take (i + 1)) = some u := fun {i u} h=>by rw [take_snoc h,lastV_snoc]
theorem found_yes {vs:List V} {i:Nat} {v:V} (hu:vs[i]? = some v) (h:vs[i + 1]? = some v):foundN vs (i + 1 + 1) = foundN vs (i + 1) := by
 unfold foundN
 rw [take_snoc h,adj_append,last_take hu,adj_yes]
 simp [adj]
theorem found_no {vs:List V} {i:Nat} {v:V} (h:vs[i]? = some v) (hu:i = 0 \/ ∃ u,vs[i - 1]? = some u /\ u ≠ v):foundN vs (i + 1) = foundN vs i + 1 /\ (adj none vs)[foundN vs i]? = some v := by
 have hl:lastV none (vs.take i) ≠ some v := by
   rcases hu with rfl | ⟨u,h1,h2⟩
   · simp [lastV]
   · cases i with
     | zero=>simp [lastV]
     | succ i=>rw [last_take (by simpa using h1)]; intro e; injection e with e; exact h2 e
 have e1:adj none (vs.take (i + 1)) = adj none (vs.take i) ++ [v] := by
   rw [take_snoc h,adj_append,adj_no hl]
   simp [adj]
 constructor
 · unfold foundN; rw [e1]; simp
 · have e2 := adj_append none (vs.take (i + 1)) (vs.drop (i + 1))
   rw [List.take_append_drop,e1] at e2
   rw [e2]
   unfold foundN
   simp
theorem colU_at {k:Nat} {rt:List (List V)} {i:Nat} {r:List V} (h:(ups k rt)[i]? = some r):(colU k rt)[i]? = some (colV k r) := by simp [colU,h]
theorem colU_len (k:Nat) (rt:List (List V)):(colU k rt).length = rt.length := by simp [colU,ups_len]
theorem part_cut (l:List (List V)) (n m:Nat):(l.drop m).take n = (l.drop (min m l.length)).take (min (min m l.length + n) l.length - min m l.length) := by
 rcases Nat.le_total m l.length with h | h
 · rw [Nat.min_eq_left h]
   rcases Nat.le_total (m + n) l.length with h2 | h2
   · rw [Nat.min_eq_left h2,show m + n - m = n by omega]
   · rw [Nat.min_eq_right h2,List.take_of_length_le (by simp; omega),List.take_of_length_le (by simp)]
 · rw [Nat.min_eq_right h,List.drop_of_length_le h,List.drop_of_length_le (Nat.le_refl _)]
   simp
end Pl
end Go.Proofs.YtojdpjpldokjmaaGreatDoor
