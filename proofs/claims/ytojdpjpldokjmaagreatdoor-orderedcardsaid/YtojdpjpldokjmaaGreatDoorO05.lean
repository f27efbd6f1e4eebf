/- A database stays well made: plainly. -/
import Derived.Test.YtojdpjpldokjmaaGreatDoorO04
set_option maxHeartbeats 60000000
set_option maxRecDepth 100000
namespace Go.Proofs.YtojdpjpldokjmaaGreatDoor
namespace Pl
open Go.Deep
def RowFor (cols:List Col) (row:List V):Prop := row.length = cols.length /\ okRow row /\ rowOf cols row
structure okTab (t:Tab):Prop where
 ncols:t.cols.length <= 5
 pos:1 <= t.cols.length
 cols:∀ c ∈ t.cols,(c.2 = 1 \/ c.2 = 2 \/ c.2 = 3) /\ c.1.length <= 10
 name:t.name.length <= 10
 nrows:t.rows.length <= 25
 rows:∀ r ∈ t.rows,RowFor (scope [] t) r
def okDB (db:DB):Prop := db.length <= 6 /\ ∀ t ∈ db,okTab t
theorem typeAt_scope (src:List UInt8) (t:Tab) (i:Nat):typeAt (scope src t) i = typeAt (scope [] t) i := by
 unfold typeAt scope
 simp only [List.getElem?_map]
 cases t.cols[i]? <;> rfl
theorem typeAt_col (src:List UInt8) (t:Tab) (i:Nat):typeAt (scope src t) i = (t.cols.getD i ([],0)).2 := by
 unfold typeAt scope
 simp only [List.getElem?_map,List.getD]
 cases t.cols[i]? <;> rfl
theorem scope_len (src:List UInt8) (t:Tab):(scope src t).length = t.cols.length := by simp [scope]
theorem RowFor.src {src:List UInt8} {t:Tab} {r:List V} (h:RowFor (scope [] t) r):RowFor (scope src t) r :=
 ⟨by rw [h.1,scope_len,scope_len],h.2.1,fun i=>by rw [typeAt_scope]; exact h.2.2 i⟩
theorem RowFor.unsrc {src:List UInt8} {t:Tab} {r:List V} (h:RowFor (scope src t) r):RowFor (scope [] t) r :=
 ⟨by rw [h.1,scope_len,scope_len],h.2.1,fun i=>by rw [<- typeAt_scope src]; exact h.2.2 i⟩
theorem typeAt_append (a b:List Col) (i:Nat):typeAt (a ++ b) i = if i < a.length then typeAt a i else typeAt b (i - a.length) := by
 unfold typeAt
 by_cases h:i < a.length
 · rw [if_pos h,List.getElem?_append_left h]
 · rw [if_neg h,List.getElem?_append_right (by omega)]
theorem getD_append (a b:List V) (i:Nat):(a ++ b).getD i nul = if i < a.length then a.getD i nul else b.getD (i - a.length) nul := by
 simp only [List.getD]
 split
 · rename_i h; rw [List.getElem?_append_left h]
 · rename_i h; rw [List.getElem?_append_right (by omega)]
theorem RowFor.append {a b:List Col} {r q:List V} (h:RowFor a r) (k:RowFor b q):RowFor (a ++ b) (r ++ q) := by
 refine ⟨by rw [List.length_append,List.length_append,h.1,k.1],fun v hv=>?_,fun i=>?_⟩
 · rcases List.mem_append.1 hv with hv | hv
   · exact h.2.1 v hv
   · exact k.2.1 v hv
 · rw [typeAt_append,getD_append,h.1]
   split
   · exact h.2.2 i
   · exact k.2.2 _
theorem getD_rep (n i:Nat):(List.replicate n nul).getD i nul = nul := by
 simp only [List.getD,List.getElem?_replicate]
 split <;> rfl
theorem RowFor.nuls (cols:List Col):RowFor cols (List.replicate cols.length nul) := by
 refine ⟨by simp,fun v hv=>?_,fun i=>?_⟩
 · rw [List.eq_of_mem_replicate hv]; exact ok_nul
 · rw [getD_rep]; exact .inl rfl
theorem RowFor.nil:RowFor [] [] := ⟨rfl,fun v hv=>(by cases hv),fun i=>.inl rfl⟩
theorem cond_nil:cond .nil = tLit 3 1 [] := rfl
theorem cond_ok {t:T} (h:okW t):okT (cond t) := by
 rcases h with rfl | h
 · rw [cond_nil]
   obtain ⟨a,b,c⟩ := lit_good (kind := 3) (n := 1) (s := []) (.inr (.inr (.inr ⟨rfl,.inr rfl,rfl⟩)))
   exact ⟨a,b,by rw [c]; decide⟩
 · cases t with
   | nil=>exact absurd h.1 id
   | node=>exact h
theorem ev_true (cols:List Col) (row:List V):ev cols row (cond .nil) = .ok (tru true) := by
 rw [cond_nil]; rfl
theorem tc_true (cols:List Col):tcAs cols (cond .nil) 3 = none := by
 rw [cond_nil]; rfl
theorem evAll_ok {cols:List Col} {row:List V} (hr:RowFor cols row):∀ {ts:List T} {vs:List V},(∀ t ∈ ts,okT t) -> evAll cols row ts = .ok vs -> vs.length = ts.length /\ okRow vs
 | [],vs,_,h=>by simp [evAll] at h; subst h; exact ⟨rfl,fun v hv=>by cases hv⟩
 | t :: ts,vs,ht,h=>by
   unfold evAll at h
   cases he:ev cols row t with
   | error e=>rw [he] at h; cases h
   | ok v =>
     rw [he] at h
     simp only at h
     cases hs:evAll cols row ts with
     | error e=>rw [hs] at h; cases h
     | ok us =>
       rw [hs] at h
       simp at h; subst h
       obtain ⟨a,b⟩ := evAll_ok hr (fun t h=>ht t (by simp [h])) hs
       refine ⟨by simp [a],fun u hu=>?_⟩
       rcases List.mem_cons.1 hu with rfl | hu
       · exact ev_ok cols hr.2.1 (ht t (by simp)).2.1 he
       · exact b u hu
def tysOf (cols:List Col) (ts:List T):List Int := ts.map (fun t=>match tc cols t with | .ok a=>a | .error _=>0)
theorem tcAll_ok {cols:List Col}:∀ {ts:List T},tcAll cols ts = none -> ∀ t ∈ ts,∃ ty,tc cols t = .ok ty
 | [],_,t,h=>by cases h
 | t :: ts,h,u,hu=>by
   unfold tcAll at h
   cases ht:tc cols t with
   | error e=>rw [ht] at h; cases h
   | ok a =>
     rw [ht] at h
     rcases List.mem_cons.1 hu with rfl | hu
     · exact ⟨a,ht⟩
     · exact tcAll_ok h u hu
theorem tcAs_ok {cols:List Col} {t:T} {w:Int} (h:tcAs cols t w = none):∃ ty,tc cols t = .ok ty /\ alike ty w = true := by
 unfold tcAs at h
 cases ht:tc cols t with
 | error e=>rw [ht] at h; cases h
 | ok a =>
   rw [ht] at h
   refine ⟨a,rfl,?_⟩
   simp only at h
   split at h
   · assumption
   · cases h
theorem evAll_types {cols:List Col} {row:List V} (hr:RowFor cols row):∀ {ts:List T} {vs:List V},(∀ t ∈ ts,okT t) -> (∀ t ∈ ts,∃ ty,tc cols t = .ok ty) -> evAll cols row ts = .ok vs -> ranksOf (tysOf cols ts) vs
 | [],vs,_,_,h=>by simp [evAll] at h; subst h; exact ⟨rfl,fun i v ty hv=>by simp at hv⟩
 | t :: ts,vs,ht,hty,h=>by
   unfold evAll at h
   cases he:ev cols row t with
   | error e=>rw [he] at h; cases h
   | ok v =>
     rw [he] at h
     simp only at h
     cases hs:evAll cols row ts with
     | error e=>rw [hs] at h; cases h
     | ok us =>
       rw [hs] at h
       simp at h; subst h
       obtain ⟨a,b⟩ := evAll_types hr (fun t h=>ht t (by simp [h])) (fun t h=>hty t (by simp [h])) hs
       obtain ⟨ty,hy⟩ := hty t (by simp)
       refine ⟨by simp [tysOf] at a ⊢; exact a,fun i u ty' hu hy' => ?_⟩
       cases i with
       | zero =>
         simp [tysOf] at hu hy'
         subst hu
         rw [hy] at hy'
         simp at hy'
         subst hy'
         exact ev_type hr.2.1 hr.2.2 (ht t (by simp)).1 (ht t (by simp)).2.1 hy he
       | succ i =>
         simp [tysOf] at hu hy'
         exact b i u ty' hu (by simp [tysOf]; exact hy')
theorem tabAt_lt {db:DB} {name:List UInt8} {i:Nat} (h:tabAt db name = some i):i < db.length := by
 unfold tabAt at h
 rw [List.findIdx?_eq_some_iff_findIdx_eq] at h
 exact h.1
theorem tabD_mem {db:DB} {i:Nat} (h:i < db.length):tabD db i ∈ db := by
 unfold tabD
 rw [List.getD_eq_getElem?_getD,List.getElem?_eq_getElem h]
 exact List.getElem_mem h
theorem setRows_len (db:DB) (i:Nat) (rows:List (List V)):(setRows db i rows).length = db.length := by simp [setRows]
theorem mem_setRows {db:DB} {i:Nat} {rows:List (List V)} {t:Tab} (hi:i < db.length) (h:t ∈ setRows db i rows):t ∈ db \/ t = ⟨(tabD db i).name,(tabD db i).cols,rows⟩ := by
 unfold setRows at h
 rw [List.mem_iff_getElem?] at h
 obtain ⟨j,hj⟩ := h
 rw [List.getElem?_modify] at hj
 by_cases he:i = j
 · subst he
   rw [List.getElem?_eq_getElem hi] at hj
   simp at hj
   right
   rw [<- hj]
   unfold tabD
   rw [List.getD_eq_getElem?_getD,List.getElem?_eq_getElem hi]
   rfl
 · left
   rw [List.mem_iff_getElem?]
   refine ⟨j,?_⟩
   cases hg:db[j]? with
   | none=>rw [hg] at hj; simp at hj
   | some x=>rw [hg] at hj; simp [he] at hj; rw [hj]
theorem okDB.set {db:DB} (h:okDB db) {i:Nat} (hi:i < db.length) {rows:List (List V)} (hn:rows.length <= 25) (hr:∀ r ∈ rows,RowFor (scope [] (tabD db i)) r):okDB (setRows db i rows) := by
 refine ⟨by rw [setRows_len]; exact h.1,fun t ht=>?_⟩
 rcases mem_setRows hi ht with ht | rfl
 · exact h.2 t ht
 · have := h.2 _ (tabD_mem hi)
   exact ⟨this.ncols,this.pos,this.cols,this.name,hn,hr⟩
theorem row_fits:∀ {ts:List T} {cs:List (List UInt8 × Int)} {vs:List V},(∀ t ∈ ts,okT t) -> (∀ c ∈ cs,c.2 ≠ 0) -> ts.length = cs.length -> tcRow ts (cs.map (·.2)) = none -> evAll [] [] ts = .ok vs -> ∀ i,ofType ((cs.getD i ([],0)).2) (vs.getD i nul)
 | [],[],vs,_,_,_,_,h,i=>by simp [evAll] at h; subst h; exact .inl rfl
 | [],c :: cs,_,_,_,hl,_,_,_=>by simp at hl
 | t :: ts,[],_,_,_,hl,_,_,_=>by simp at hl
 | t :: ts,c :: cs,vs,ht,hc,hl,htc,h,i=>by
   unfold evAll at h
   cases he:ev [] [] t with
   | error e=>rw [he] at h; cases h
   | ok v =>
     rw [he] at h
     simp only at h
     cases hs:evAll [] [] ts with
     | error e=>rw [hs] at h; cases h
     | ok us =>
       rw [hs] at h
       simp at h; subst h
       simp only [List.map_cons,tcRow] at htc
       cases ha:tcAs [] t c.2 with
       | some e=>rw [ha] at htc; cases htc
       | none =>
         rw [ha] at htc
         cases i with
         | zero =>
           obtain ⟨ty,hty,hal⟩ := tcAs_ok ha
           have := ev_type RowFor.nil.2.1 RowFor.nil.2.2 (ht t (by simp)).1 (ht t (by simp)).2.1 hty he
           simp only [List.getD_cons_zero]
           rcases this with h0 | h0
           · exact .inl h0
           · unfold alike at hal
             simp at hal
             rcases hal with (e | e) | e
             · exact .inr (by rw [h0,e])
             · exact .inl (by rw [h0,e])
             · exact absurd e (hc c (by simp))
         | succ i =>
           simp only [List.getD_cons_succ]
           exact row_fits (fun t h=>ht t (by simp [h])) (fun c h=>hc c (by simp [h])) (by simpa using hl) htc hs i
theorem sift_ok {cols:List Col} {c:T}:∀ {rows:List (List V)} {z:List (List V) × List (List V)},sift cols c rows = .ok z -> (∀ r ∈ z.1,r ∈ rows) /\ (∀ r ∈ z.2,r ∈ rows) /\ z.1.length + z.2.length = rows.length
 | [],z,h=>by simp [sift] at h; subst h; simp
 | r :: rs,z,h=>by
   unfold sift at h
   cases he:ev cols r c with
   | error e=>rw [he] at h; cases h
   | ok v =>
     rw [he] at h
     simp only at h
     cases hs:sift cols c rs with
     | error e=>rw [hs] at h; cases h
     | ok y =>
       rw [hs] at h
       simp only at h
       obtain ⟨a,b,d⟩ := sift_ok hs
       injection h with h
       split at h
       · subst h
         refine ⟨fun x hx=>?_,fun x hx=>List.mem_cons_of_mem _ (b x hx),by simp; omega⟩
         rcases List.mem_cons.1 hx with rfl | hx
         · simp
         · exact List.mem_cons_of_mem _ (a x hx)
       · subst h
         refine ⟨fun x hx=>List.mem_cons_of_mem _ (a x hx),fun x hx=>?_,by simp; omega⟩
         rcases List.mem_cons.1 hx with rfl | hx
         · simp
         · exact List.mem_cons_of_mem _ (b x hx)
theorem alike_type {ty w:Int} {v:V} (hw:w ≠ 0) (h:alike ty w = true) (hv:ofType ty v):ofType w v := by
 rcases hv with h0 | h0
 · exact .inl h0
 · unfold alike at h
   simp at h
   rcases h with (e | e) | e
   · exact .inr (by rw [h0,e])
   · exact .inl (by rw [h0,e])
   · exact absurd e hw
def SetsOk (t:Tab) (ks:List Nat) (ts:List T):Prop := ks.length = ts.length /\ ∀ (j k:Nat) (x:T),ks[j]? = some k -> ts[j]? = some x -> k < t.cols.length /\ tcAs (scope t.name t) x ((t.cols.getD k ([],0)).2) = none
theorem colIdx_lt {t:Tab} {name:List UInt8} {k:Nat} (h:colIdx t name = some k):k < t.cols.length := by
 unfold colIdx at h
 rw [List.findIdx?_eq_some_iff_findIdx_eq] at h
 exact h.1
theorem setsGo_ok {t:Tab}:∀ {its:List It} {acc ks:List Nat},setsGo t acc its = .ok ks -> ∃ m,ks = acc ++ m /\ SetsOk t m (its.map (·.tree))
 | [],acc,ks,h=>by simp [setsGo] at h; subst h; exact ⟨[],by simp,rfl,fun j k x hj=>by simp at hj⟩
 | it :: its,acc,ks,h=>by
   unfold setsGo at h
   cases hc:colIdx t it.name with
   | none=>rw [hc] at h; cases h
   | some k =>
     rw [hc] at h
     simp only at h
     split at h
     · cases h
     · cases ha:tcAs (scope t.name t) it.tree ((t.cols.getD k ([],0)).2) with
       | some e=>rw [ha] at h; cases h
       | none =>
         rw [ha] at h
         obtain ⟨m,rfl,hm⟩ := setsGo_ok h
         refine ⟨k :: m,by simp,by simp [hm.1],fun j k' x hj hx=>?_⟩
         cases j with
         | zero=>simp at hj hx; subst hj; subst hx; exact ⟨colIdx_lt hc,ha⟩
         | succ j=>simp at hj hx; exact hm.2 j k' x hj (by simpa using hx)
theorem getD_set (l:List V) (k i:Nat) (v:V):(l.set k v).getD i nul = if k = i /\ i < l.length then v else l.getD i nul := by
 simp only [List.getD,List.getElem?_set]
 by_cases h:k = i
 · subst h
   by_cases hl:k < l.length
   · simp [hl]
   · simp [hl]
 · simp [h]
theorem setRow_ok {t:Tab} (ht:okTab t) {row:List V} (hr:RowFor (scope t.name t) row):∀ {ks:List Nat} {ts:List T} {out r':List V},(∀ x ∈ ts,okT x) -> SetsOk t ks ts -> RowFor (scope t.name t) out -> setRow (scope t.name t) row out ks ts = .ok r' -> RowFor (scope t.name t) r'
 | [],ts,out,r',_,hs,ho,h=>by
   cases ts with
   | nil=>simp [setRow] at h; subst h; exact ho
   | cons x ts=>simp [SetsOk] at hs
 | k :: ks,[],out,r',_,hs,ho,h=>by simp [SetsOk] at hs
 | k :: ks,x :: ts,out,r',hx,hs,ho,h=>by
   unfold setRow at h
   cases he:ev (scope t.name t) row x with
   | error e=>rw [he] at h; cases h
   | ok v =>
     rw [he] at h
     obtain ⟨hk,hty⟩ := hs.2 0 k x rfl rfl
     refine setRow_ok ht hr (fun y hy=>hx y (by simp [hy])) ⟨by simpa using hs.1,fun j k' y hj hy=>hs.2 (j + 1) k' y (by simpa using hj) (by simpa using hy)⟩ ?_ h
     refine ⟨by rw [List.length_set]; exact ho.1,fun u hu=>?_,fun i=>?_⟩
     · rcases List.mem_or_eq_of_mem_set hu with hu | rfl
       · exact ho.2.1 u hu
       · exact ev_ok _ hr.2.1 (hx x (by simp)).2.1 he
     · rw [getD_set]
       split
       · rename_i hi
         obtain ⟨rfl,_⟩ := hi
         obtain ⟨ty,h1,h2⟩ := tcAs_ok hty
         rw [typeAt_col]
         refine alike_type ?_ h2 (ev_type hr.2.1 hr.2.2 (hx x (by simp)).1 (hx x (by simp)).2.1 h1 he)
         have hm:t.cols.getD k ([],0) ∈ t.cols := by
           rw [List.getD_eq_getElem?_getD,List.getElem?_eq_getElem hk]; exact List.getElem_mem hk
         have := (ht.cols _ hm).1
         omega
       · exact ho.2.2 i
theorem updGo_ok {t:Tab} (ht:okTab t) {c:T} {ks:List Nat} {ts:List T} (hx:∀ x ∈ ts,okT x) (hs:SetsOk t ks ts):∀ {rows:List (List V)} {z:List (List V) × Nat},(∀ r ∈ rows,RowFor (scope t.name t) r) -> updGo (scope t.name t) c ks ts rows = .ok z -> (∀ r ∈ z.1,RowFor (scope t.name t) r) /\ z.1.length = rows.length /\ z.2 <= rows.length
 | [],z,_,h=>by simp [updGo] at h; subst h; simp
 | r :: rs,z,hr,h=>by
   unfold updGo at h
   cases he:ev (scope t.name t) r c with
   | error e=>rw [he] at h; cases h
   | ok v =>
     rw [he] at h
     simp only at h
     split at h
     · cases h1:setRow (scope t.name t) r r ks ts with
       | error e=>rw [h1] at h; cases h
       | ok r' =>
         rw [h1] at h
         simp only at h
         cases h2:updGo (scope t.name t) c ks ts rs with
         | error e=>rw [h2] at h; cases h
         | ok y =>
           rw [h2] at h
           simp at h; subst h
           obtain ⟨a,b,d⟩ := updGo_ok ht hx hs (fun r h=>hr r (by simp [h])) h2
           refine ⟨fun q hq=>?_,by simp [b],by simp; omega⟩
           rcases List.mem_cons.1 hq with rfl | hq
           · exact setRow_ok ht (hr r (by simp)) hx hs (hr r (by simp)) h1
           · exact a q hq
     · cases h2:updGo (scope t.name t) c ks ts rs with
       | error e=>rw [h2] at h; cases h
       | ok y =>
         rw [h2] at h
         simp at h; subst h
         obtain ⟨a,b,d⟩ := updGo_ok ht hx hs (fun r h=>hr r (by simp [h])) h2
         refine ⟨fun q hq=>?_,by simp [b],by simp; omega⟩
         rcases List.mem_cons.1 hq with rfl | hq
         · exact hr q (by simp)
         · exact a q hq
theorem doSelect_db (db:DB) (s:St):(doSelect db s).1 = db := by
 unfold doSelect
 repeat' split
 all_goals rfl
theorem doSt_ok {db:DB} {s:St} (hs:okSt s) (h:okDB db):okDB (doSt db s).1 := by
   unfold doSt
   split
   · rename_i hk
     unfold doCreate
     split
     · exact h
     split
     · exact h
     · rename_i h6
       refine ⟨by have := h.1; simp; omega,fun t ht=>?_⟩
       rcases List.mem_append.1 ht with ht | ht
       · exact h.2 t ht
       · simp at ht; subst ht
         obtain ⟨h5,hi⟩ := hs.create hk
         refine ⟨by simpa using h5,?_,fun c hc=>?_,hs.tname,by simp,by simp⟩
         · have := hs.some_ (.inr hk)
           cases hit:s.items with
           | nil=>exact absurd hit this
           | cons a l=>simp
         · simp at hc
           obtain ⟨i,hi',rfl⟩ := hc
           exact hi i hi'
   rename_i hk99
   split
   · unfold doInsert
     cases ht:tabAt db s.table with
     | none=>exact h
     | some i =>
       have hi := tabAt_lt ht
       have htab := h.2 _ (tabD_mem hi)
       simp only
       split
       · exact h
       · rename_i hlen
         simp only [ne_eq,Decidable.not_not] at hlen
         split
         · exact h
         · rename_i htc
           split
           · exact h
           · rename_i row hev
             split
             · exact h
             · rename_i h25
               have htr:∀ t ∈ s.items.map (·.tree),okT t := by
                 intro t ht
                 simp at ht
                 obtain ⟨j,hj,rfl⟩ := ht
                 exact hs.items hk99 j hj
               refine h.set hi (by have := htab.nrows; simp; omega) (fun r hr=>?_)
               rcases List.mem_append.1 hr with hr | hr
               · exact htab.rows r hr
               · simp at hr; subst hr
                 obtain ⟨a,b⟩ := evAll_ok RowFor.nil htr hev
                 refine ⟨by rw [a,scope_len]; simpa using hlen,b,fun j=>?_⟩
                 rw [typeAt_col]
                 exact row_fits htr (fun c hc=>by have := (htab.cols c hc).1; omega) (by simpa using hlen) htc hev j
   split
   · unfold doDelete
     cases ht:tabAt db s.table with
     | none=>exact h
     | some i =>
       have hi := tabAt_lt ht
       have htab := h.2 _ (tabD_mem hi)
       simp only
       split
       · exact h
       · split
         · exact h
         · rename_i z hz
           obtain ⟨a,b,c⟩ := sift_ok hz
           exact h.set hi (by have := htab.nrows; simp; omega) (fun r hr=>htab.rows r (b r hr))
   split
   · unfold doUpdate
     cases ht:tabAt db s.table with
     | none=>exact h
     | some i =>
       have hi := tabAt_lt ht
       have htab := h.2 _ (tabD_mem hi)
       simp only
       split
       · exact h
       · rename_i ks hks
         obtain ⟨m,hm,hsets⟩ := setsGo_ok hks
         simp at hm; subst hm
         split
         · exact h
         · split
           · exact h
           · rename_i z hz
             have htr:∀ t ∈ s.items.map (·.tree),okT t := by
               intro t ht
               simp at ht
               obtain ⟨j,hj,rfl⟩ := ht
               exact hs.items hk99 j hj
             obtain ⟨a,b,c⟩ := updGo_ok htab htr hsets (fun r hr=>(htab.rows r hr).src) hz
             exact h.set hi (by have := htab.nrows; simp; omega) (fun r hr=>(a r hr).unsrc)
   · rw [doSelect_db]; exact h
end Pl
namespace Pl
open Go.Deep
set_option linter.unusedVariables false
set_option linter.unusedSimpArgs false
theorem worth_app:∀ (a b:List UInt8) (m:Int),worth m (a ++ b) = worth (worth m a) b
 | [],_,_=>rfl
 | c :: a,b,m=>worth_app a b _
theorem ofNat_toNat {k:Nat} (h:k < 10):(UInt8.ofNat (48 + k)).toNat = 48 + k := by
 rw [UInt8.toNat_ofNat']; omega
theorem dig_of {k:Nat} (h:k < 10):isDig (UInt8.ofNat (48 + k)) = true := by
 rw [isDig_iff,ofNat_toNat h]; omega
theorem decGo_app:∀ (f n:Nat) (acc:List UInt8),1 <= f -> n < 10 ^ f -> ∃ ds,decGo f n acc = ds ++ acc /\ ds ≠ [] /\ (∀ c ∈ ds,isDig c = true) /\ worth 0 ds = n /\ ds.length <= f
 | 0,n,acc,hf,h=>by omega
 | f + 1,n,acc,_,h=>by
   unfold decGo
   split
   · rename_i h10
     refine ⟨[UInt8.ofNat (48 + n)],rfl,by simp,?_,?_,by simp⟩
     · intro c hc; rw [List.mem_singleton] at hc; subst hc; exact dig_of h10
     · show (10 * 0 + (((UInt8.ofNat (48 + n)).toNat:Int) - 48)) = n
       rw [ofNat_toNat h10]; omega
   · have hm:n % 10 < 10 := Nat.mod_lt _ (by decide)
     have hf:1 <= f := by
       cases f with
       | zero=>simp at h; omega
       | succ f=>omega
     obtain ⟨ds,h1,h2,h3,h4,h5⟩ := decGo_app f (n / 10) (UInt8.ofNat (48 + n % 10) :: acc) hf (by rw [Nat.pow_succ] at h; exact Nat.div_lt_of_lt_mul (by rw [Nat.mul_comm]; exact h))
     refine ⟨ds ++ [UInt8.ofNat (48 + n % 10)],by rw [h1]; simp,by simp,?_,?_,by simp; omega⟩
     · intro c hc
       rcases List.mem_append.1 hc with hc | hc
       · exact h3 c hc
       · rw [List.mem_singleton] at hc; subst hc; exact dig_of hm
     · rw [worth_app,h4]
       show (10 * ((n / 10:Nat):Int) + (((UInt8.ofNat (48 + n % 10)).toNat:Int) - 48)) = n
       rw [ofNat_toNat hm]; omega
theorem dec_ok {n:Nat} (h:n < 10 ^ 20):dec n ≠ [] /\ (∀ c ∈ dec n,isDig c = true) /\ worth 0 (dec n) = n /\ (dec n).length <= 20 := by
 obtain ⟨ds,h1,h2,h3,h4,h5⟩ := decGo_app 20 n [] (by decide) h
 have:dec n = ds := by unfold dec; rw [h1]; simp
 rw [this]
 exact ⟨h2,h3,h4,h5⟩
theorem sep_dig {y:List UInt8} (h:Sep y):y.takeWhile isDig = [] /\ y.dropWhile isDig = y := sep_stop h rfl rfl rfl rfl rfl
theorem Cl.num {n:Nat} (h:n <= 9223372036854775807):Cl (dec n) [⟨2,n,[]⟩] := fun y hy=>by
 obtain ⟨h1,h2,h3,_⟩ := dec_ok (n := n) (by omega)
 refine toks_num h2 h1 ?_ (show (2:Nat) ≠ 99 by decide) (sep_dig hy)
 unfold numTok
 rw [h3,if_neg (by omega)]
theorem Cl.neg {x:List UInt8} {ts:List Tok} (h:Cl x ts):Cl (45 :: x) (kt 16 :: ts) := fun y hy=>by
 show toks (45 :: (x ++ y)) = _
 rw [toks_minus,h y hy]; rfl
theorem Cl.minus {x z:List UInt8} {ts us:List Tok} (h:Cl x ts) (k:Cl z us):Cl (x ++ ([32,45,32] ++ z)) (ts ++ ([kt 16] ++ us)) :=
 Cl.mid h k (sep_cons (.inl rfl)) (fun z=>by
   show toks (32 :: 45 :: 32 :: z) = _
   rw [toks_space,toks_minus,toks_space]; rfl) (by simp)
def numP (n:Int):List UInt8 := if n = -9223372036854775808 then [40,45,57,50,50,51,51,55,50,48,51,54,56,53,52,55,55,53,56,48,55,32,45,32,49,41] else if n < 0 then 45 :: dec (-n).toNat else dec n.toNat
def numK (n:Int):List Tok := if n = -9223372036854775808 then [kt 7,kt 16,⟨2,9223372036854775807,[]⟩,kt 16,⟨2,1,[]⟩,kt 8] else if n < 0 then [kt 16,⟨2,-n,[]⟩] else [⟨2,n,[]⟩]
def numT (n:Int):T := if n = -9223372036854775808 then tTwo 7 (tOne 2 (tLit 1 9223372036854775807 [])) (tLit 1 1 []) else if n < 0 then tOne 2 (tLit 1 (-n) []) else tLit 1 n []
abbrev in64 (n:Int):Prop := -9223372036854775808 <= n /\ n <= 9223372036854775807
theorem numP_cl {n:Int} (h:in64 n):Cl (numP n) (numK n) := by
 obtain ⟨h1,h2⟩ := h
 unfold numP numK
 split
 · have e1:([57,50,50,51,51,55,50,48,51,54,56,53,52,55,55,53,56,48,55]:List UInt8) = dec 9223372036854775807 := by decide +kernel
   have := ((Cl.neg (Cl.num (n := 9223372036854775807) (by decide))).minus (Cl.num (n := 1) (by decide))).brackets
   rw [<- e1] at this
   exact this
 split
 · have := Cl.neg (Cl.num (n := (-n).toNat) (by omega))
   rw [show (((-n).toNat:Nat):Int) = -n by omega] at this
   exact this
 · have := Cl.num (n := n.toNat) (by omega)
   rw [show ((n.toNat:Nat):Int) = n by omega] at this
   exact this
theorem Sg.vNegSub {n:Nat} {ts us:List Tok} {x y:T} (h:Sg n ts x) (k:Sg n us y):Vl (n + 1) (kt 16 :: ts ++ kt 16 :: us) (tTwo 7 (tOne 2 x) y) := fun m rest hm he=>by
 obtain ⟨h1,h2,h3,h4,h5,ha,ho⟩ := endK_none he
 cases m with
 | zero=>omega
 | succ m =>
   rw [List.append_assoc]
   refine value_comp (by show (16:Nat) ≠ 43; decide) ?_ he
   show pComp _ _ = _
   unfold pComp
   have hsg:(lv (m + 1)).signed (kt 16 :: ts ++ (kt 16 :: us ++ rest)) = some (tOne 2 x,kt 16 :: (us ++ rest)) := by
     show pSigned (lv m).signed _ _ = _
     unfold pSigned
     rw [if_pos (show (hd (kt 16 :: ts ++ (kt 16 :: us ++ rest))).k = 16 from rfl),show (kt 16 :: ts ++ (kt 16 :: us ++ rest)).tail = ts ++ (kt 16 :: (us ++ rest)) from rfl,h.signed (m := m) (rest := kt 16 :: (us ++ rest)) (by omega) (show (16:Nat) ≠ 10 by decide)]
   have hsum:(lv (m + 1)).sum (kt 16 :: ts ++ (kt 16 :: us ++ rest)) = some (tTwo 7 (tOne 2 x) y,rest) :=
     chained_one (t := kt 16) (us := us ++ rest) (chained_stop hsg rfl) rfl (k.prod (by omega) h1 h2) h3
   rw [hsum]; simp only; rw [h4]; simp only; rw [if_neg h5]
theorem numK_vl (n:Int):Vl 2 (numK n) (numT n) := by
 unfold numK numT
 split
 · exact ((Sg.num 9223372036854775807).vNegSub (Sg.num 1)).paren.value
 split
 · exact ((Sg.num (-n)).vNeg).mono (by decide)
 · exact ((Sg.num n).value).mono (by decide)
theorem numT_ev {n:Int} (h:in64 n) (cols:List Col) (row:List V):ev cols row (numT n) = .ok ⟨1,n,[]⟩ := by
 obtain ⟨h1,h2⟩ := h
 unfold numT
 split
 · rename_i e; subst e; rfl
 split
 · simp [tOne,tLit,ev,litOf,ap1,neg,V.miss,ranged]
   omega
 · rfl
theorem numT_tc (n:Int) (cols:List Col):tc cols (numT n) = .ok 1 := by
 unfold numT
 split
 · rfl
 split
 · rfl
 · rfl
theorem numT_ok {n:Int} (h:in64 n):okT (numT n) := by
 obtain ⟨h1,h2⟩ := h
 have hl:∀ m:Int,0 <= m -> m <= 9223372036854775807 -> okT (tLit 1 m []) := fun m a b=>by
   obtain ⟨x,y,z⟩ := lit_good (kind := 1) (n := m) (s := []) (.inr (.inl ⟨rfl,rfl,a,b⟩))
   exact ⟨x,y,by rw [z]; decide⟩
 unfold numT
 split
 · have a := hl 9223372036854775807 (by decide) (by decide)
   have b := hl 1 (by decide) (by decide)
   obtain ⟨c,d⟩ := one_good (o := 2) (by decide) (by decide) a.1 a.2.1
   obtain ⟨e,f⟩ := two_good (o := 7) (by decide) (by decide) c b.1 d b.2.1
   exact ⟨e,f,by decide⟩
 split
 · have a := hl (-n) (by omega) (by omega)
   obtain ⟨c,d⟩ := one_good (o := 2) (by decide) (by decide) a.1 a.2.1
   exact ⟨c,d,by simp [sz,tOne,tLit]⟩
 · exact hl n (by omega) (by omega)
structure Pc where
 x:List UInt8
 ts:List Tok
 t:T
def Pc.ok (p:Pc):Prop := Cl p.x p.ts /\ Vl 20 p.ts p.t /\ p.ts ≠ []
def joinT:List (List Tok) -> List Tok
 | []=>[]
 | [a]=>a
 | a :: b :: r=>a ++ kt 9 :: joinT (b :: r)
theorem toks_join:∀ {ps:List Pc} {y:List UInt8},(∀ p ∈ ps,p.ok) -> Sep y -> toks (sepJoin [44,32] (ps.map (·.x)) ++ y) = joinT (ps.map (·.ts)) ++ toks y
 | [],y,_,_=>rfl
 | [p],y,h,hy=>(h p (by simp)).1 y hy
 | p :: q :: r,y,h,hy=>by
   show toks ((p.x ++ [44,32] ++ sepJoin [44,32] ((q :: r).map (·.x))) ++ y) = (p.ts ++ kt 9 :: joinT ((q :: r).map (·.ts))) ++ toks y
   rw [List.append_assoc,List.append_assoc,show [44,32] ++ (sepJoin [44,32] ((q :: r).map (·.x)) ++ y) = 44 :: 32 :: (sepJoin [44,32] ((q :: r).map (·.x)) ++ y) from rfl,(h p (by simp)).1 _ (sep_cons (.inr (.inr (.inl rfl))))]
   rw [toks_comma,toks_space,toks_join (fun a ha=>h a (by simp at ha ⊢; exact .inr ha)) hy]
   simp
def itV (t:T):It := ⟨[],[],0,t,false⟩
theorem more_join:∀ {ps:List Pc} {rest:List Tok} {acc:List It} {f:Nat},(∀ p ∈ ps,p.ok) -> ps ≠ [] -> (hd rest).k = 8 -> ps.length <= f -> more iValue f acc (joinT (ps.map (·.ts)) ++ rest) = some (acc ++ ps.map (fun p=>itV p.t),rest)
 | [],_,_,_,_,h,_,_=>absurd rfl h
 | [p],rest,acc,f,h,_,h8,hf=>by
   cases f with
   | zero=>simp at hf
   | succ f =>
     have hv := (h p (by simp)).2.1 20 rest (Nat.le_refl _) (by rw [h8]; rfl)
     have e:iValue (joinT ([p].map (·.ts)) ++ rest) = some (itV p.t,rest) := by
       unfold iValue
       show (match pVal 20 (p.ts ++ rest) with | none=>none | some (x,r)=>some (_,r)) = _
       rw [show pVal 20 (p.ts ++ rest) = some (p.t,rest) from hv]
       rfl
     unfold more
     rw [e]
     simp only
     rw [if_neg (by rw [h8]; decide)]
     rfl
 | p :: q :: r,rest,acc,f,h,_,h8,hf=>by
   cases f with
   | zero=>simp at hf
   | succ f =>
     have hv := (h p (by simp)).2.1 20 (kt 9 :: (joinT ((q :: r).map (·.ts)) ++ rest)) (Nat.le_refl _) rfl
     have e:iValue (joinT ((p :: q :: r).map (·.ts)) ++ rest) = some (itV p.t,kt 9 :: (joinT ((q :: r).map (·.ts)) ++ rest)) := by
       have e1:joinT ((p :: q :: r).map (·.ts)) ++ rest = p.ts ++ kt 9 :: (joinT ((q :: r).map (·.ts)) ++ rest) := by simp [joinT]
       rw [e1]
       unfold iValue
       rw [show pVal 20 (p.ts ++ kt 9 :: (joinT ((q :: r).map (·.ts)) ++ rest)) = some (p.t,_) from hv]
       rfl
     unfold more
     rw [e]
     simp only
     rw [if_pos (show (hd (kt 9 :: (joinT ((q :: r).map (·.ts)) ++ rest))).k = 9 from rfl)]
     show more iValue f (acc ++ [itV p.t]) (joinT ((q :: r).map (·.ts)) ++ rest) = _
     rw [more_join (fun a ha=>h a (by simp at ha ⊢; exact .inr ha)) (by simp) h8 (by simp at hf ⊢; omega)]
     simp
theorem joinT_len:∀ {ps:List Pc},(∀ p ∈ ps,p.ok) -> ps.length <= (joinT (ps.map (·.ts))).length
 | [],_=>by simp [joinT]
 | [p],h=>by
   have := (h p (by simp)).2.2
   cases hp:p.ts with
   | nil=>exact absurd hp this
   | cons=>simp [joinT,hp]
 | p :: q :: r,h=>by
   have := joinT_len (ps := q :: r) (fun a ha=>h a (by simp at ha ⊢; exact .inr ha))
   simp [joinT] at this ⊢
   omega
structure NameOk (w:List UInt8):Prop where
 all:w.all isLD = true
 head:isLet (w.headD 0) = true
 tok:wordTok w = ⟨1,0,w⟩
theorem NameOk.cl {w:List UInt8} (h:NameOk w):Cl w [⟨1,0,w⟩] := Cl.word h.all h.head h.tok (show (1:Nat) ≠ 99 by decide)
def insText (name:List UInt8) (xs:List (List UInt8)) (tail:List UInt8):List UInt8 := [73,78,83,69,82,84,32,73,78,84,79,32] ++ (name ++ ([32,86,65,76,85,69,83,32,40] ++ (sepJoin [44,32] xs ++ 41 :: tail)))
theorem cl_kw (w:List UInt8) (k:Nat) (hw:w.all isLD = true) (hl:isLet (w.headD 0) = true) (ht:wordTok w = kt k) (h9:k ≠ 99):Cl w [kt k] := Cl.word hw hl ht h9
theorem ins_toks {name:List UInt8} (hn:NameOk name) {ps:List Pc} (hp:∀ p ∈ ps,p.ok) {tail:List UInt8} (ht:toks tail = []):toks (insText name (ps.map (·.x)) tail) = kt 22 :: kt 23 :: ⟨1,0,name⟩ :: kt 24 :: kt 7 :: (joinT (ps.map (·.ts)) ++ [kt 8]) := by
 have k1 := cl_kw [73,78,83,69,82,84] 22 rfl rfl (by kernel_rfl) (by decide)
 have k2 := cl_kw [73,78,84,79] 23 rfl rfl (by kernel_rfl) (by decide)
 have k3 := cl_kw [86,65,76,85,69,83] 24 rfl rfl (by kernel_rfl) (by decide)
 unfold insText
 show toks ([73,78,83,69,82,84] ++ 32 :: ([73,78,84,79] ++ 32 :: (name ++ 32 :: ([86,65,76,85,69,83] ++ 32 :: 40 :: (sepJoin [44,32] (ps.map (·.x)) ++ 41 :: tail))))) = _
 rw [k1 _ (sep_cons (.inl rfl)),toks_space,k2 _ (sep_cons (.inl rfl)),toks_space,hn.cl _ (sep_cons (.inl rfl)),toks_space,k3 _ (sep_cons (.inl rfl)),toks_space,toks_open,toks_join hp (sep_cons (.inr (.inl rfl))),toks_close,ht]
 simp
theorem pInsert_of {ts r:List Tok} {l:List It} (h1:(hd ts).k = 23) (h2:(hd ts.tail).k = 1) (h3:(hd ts.tail.tail).k = 24) (h4:inOpen iValue ts.tail.tail.tail = some (l,r)):pInsert ts = some (st0 105 (hd ts.tail).s l .nil,r) := by
 unfold pInsert
 rw [if_pos h1,if_pos h2,if_pos h3,h4]
theorem ins_parse {name:List UInt8} (hn:NameOk name) {ps:List Pc} (hp:∀ p ∈ ps,p.ok) (hne:ps ≠ []) {tail:List UInt8} (ht:toks tail = []) (hl:(insText name (ps.map (·.x)) tail).length <= 600):pParse (insText name (ps.map (·.x)) tail) = some (st0 105 name (ps.map (fun p=>itV p.t)) .nil) := by
 unfold pParse
 rw [if_neg (by omega),ins_toks hn hp ht]
 have e:inOpen iValue (kt 7 :: (joinT (ps.map (·.ts)) ++ [kt 8])) = some (ps.map (fun p=>itV p.t),[]) := by
   unfold inOpen
   rw [if_pos (show (hd (kt 7 :: (joinT (ps.map (·.ts)) ++ [kt 8]))).k = 7 from rfl)]
   show (match listed iValue (joinT (ps.map (·.ts)) ++ [kt 8]) with | none=>none | some (l,r)=>if (hd r).k = 8 then some (l,r.tail) else none) = _
   unfold listed
   rw [more_join hp hne rfl (by have := joinT_len hp; simp; omega)]
   rfl
 have e2:pStatement (kt 22 :: kt 23 :: ⟨1,0,name⟩ :: kt 24 :: kt 7 :: (joinT (ps.map (·.ts)) ++ [kt 8])) = some (st0 105 name (ps.map (fun p=>itV p.t)) .nil,[]) := by
   unfold pStatement
   have q:(hd (kt 22 :: kt 23 :: ⟨1,0,name⟩ :: kt 24 :: kt 7 :: (joinT (ps.map (·.ts)) ++ [kt 8]))).k = 22 := rfl
   rw [if_neg (by rw [q]; decide),if_pos q]
   show pInsert (kt 23 :: ⟨1,0,name⟩ :: kt 24 :: kt 7 :: (joinT (ps.map (·.ts)) ++ [kt 8])) = _
   exact pInsert_of (ts := kt 23 :: ⟨1,0,name⟩ :: kt 24 :: kt 7 :: (joinT (ps.map (·.ts)) ++ [kt 8])) rfl rfl rfl e
 rw [e2]
 rfl
end Pl
namespace Pl
open Go.Deep
theorem beside_true (cols:List Col) (r:List V):∀ qs:List (List V),beside cols (cond .nil) r qs = .ok (qs.map (r ++ ·))
 | []=>rfl
 | q :: qs=>by
   unfold beside
   rw [ev_true]
   simp only
   rw [beside_true cols r qs]
   simp
theorem join_first (cols:List Col) (n:Nat) (qs:List (List V)):joinRows cols (cond .nil) false n qs [[]] = .ok qs := by
 unfold joinRows
 rw [beside_true]
 simp [joinRows]
theorem cond_id {t:T} (h:okT t):cond t = t := by
 cases t with
 | nil=>exact absurd h.1 id
 | node=>rfl
def joinsAll (db:DB):List Col -> List (List V) -> List Nat -> List It -> Out (List (List V))
 | cols,rows,i :: is,it :: its=>match joinRows (cols ++ scope it.other (tabD db i)) (cond it.tree) it.mark (tabD db i).cols.length (tabD db i).rows rows with
   | .error e=>.error e
   | .ok z=>joinsAll db (cols ++ scope it.other (tabD db i)) z is its
 | _,rows,_,_=>.ok rows
def onsAll (db:DB):List Col -> List Nat -> List It -> Option Nat
 | cols,i :: is,it :: its=>match tcAs (cols ++ scope it.other (tabD db i)) (cond it.tree) 3 with
   | some e=>some e
   | none=>onsAll db (cols ++ scope it.other (tabD db i)) is its
 | _,_,_=>none
theorem joinsAll_go (db:DB):∀ (cols:List Col) (rows:List (List V)) (is:List Nat) (its:List It),(∀ i ∈ its,okT i.tree) -> joinsAll db cols rows is its = joinsGo db cols rows is its
 | cols,rows,[],its,_=>by cases its <;> rfl
 | cols,rows,i :: is,[],_=>rfl
 | cols,rows,i :: is,it :: its,h=>by
   unfold joinsAll joinsGo
   rw [cond_id (h it (by simp))]
   cases joinRows (cols ++ scope it.other (tabD db i)) it.tree it.mark (tabD db i).cols.length (tabD db i).rows rows with
   | error e=>rfl
   | ok z=>exact joinsAll_go db _ _ _ _ (fun j hj=>h j (by simp [hj]))
theorem onsAll_go (db:DB):∀ (cols:List Col) (is:List Nat) (its:List It),(∀ i ∈ its,okT i.tree) -> onsAll db cols is its = onsGo db cols is its
 | cols,[],its,_=>by cases its <;> rfl
 | cols,i :: is,[],_=>rfl
 | cols,i :: is,it :: its,h=>by
   unfold onsAll onsGo
   rw [cond_id (h it (by simp))]
   cases tcAs (cols ++ scope it.other (tabD db i)) it.tree 3 with
   | some e=>rfl
   | none=>exact onsAll_go db _ _ _ (fun j hj=>h j (by simp [hj]))
theorem srcsGo_len {db:DB}:∀ {its:List It} {called:List (List UInt8)} {is:List Nat},srcsGo db called its = .ok is -> is.length = its.length /\ ∀ i ∈ is,i < db.length
 | [],_,is,h=>by simp [srcsGo] at h; subst h; simp
 | it :: its,called,is,h=>by
   unfold srcsGo at h
   cases ht:tabAt db it.name with
   | none=>rw [ht] at h; cases h
   | some i =>
     rw [ht] at h
     simp only at h
     split at h
     · cases h
     · cases hs:srcsGo db (called ++ [it.other]) its with
       | error e=>rw [hs] at h; cases h
       | ok js =>
         rw [hs] at h
         simp at h; subst h
         obtain ⟨a,b⟩ := srcsGo_len hs
         refine ⟨by simp [a],fun k hk=>?_⟩
         rcases List.mem_cons.1 hk with rfl | hk
         · exact tabAt_lt ht
         · exact b k hk
def choose (db:DB) (s:St):Out (List (List V)) := match srcsGo db [] s.sources with
 | .error e=>.error e
 | .ok is=>match onsAll db [] is s.sources with
   | some e=>.error e
   | none=>match tcAll (scopes db is s.sources) (valuesOf s (scopes db is s.sources)) with
     | some e=>.error e
     | none=>match tcAs (scopes db is s.sources) (cond s.whr) 3 with
       | some e=>.error e
       | none=>match tcAll (scopes db is s.sources) (s.keys.map (·.tree)) with
         | some e=>.error e
         | none=>match joinsAll db [] [[]] is s.sources with
           | .error e=>.error e
           | .ok rows=>chosen (scopes db is s.sources) s rows
theorem choose_do {db:DB} {s:St} (hs:okSt s) (hk:s.kind = 115):doSelect db s = match choose db s with
   | .error e=>(db,no e)
   | .ok out=>(db,⟨out,0,0⟩) := by
 obtain ⟨a,m,hsrc,ha,hmark,_,hm⟩ := hs.sources hk
 unfold doSelect choose
 rw [hsrc]
 cases h0:srcsGo db [] (a :: m) with
 | error e=>rfl
 | ok is =>
   obtain ⟨hl,_⟩ := srcsGo_len h0
   cases is with
   | nil=>simp at hl
   | cons i is =>
     have e1:scopes db ((i :: is).take 1) ((a :: m).take 1) = scope a.other (tabD db i) := by simp [scopes]
     have e2:onsAll db [] (i :: is) (a :: m) = onsGo db (scope a.other (tabD db i)) is m := by
       unfold onsAll
       rw [ha,tc_true]
       simp only [List.nil_append]
       exact onsAll_go db _ _ _ hm
     have e3:joinsAll db [] [[]] (i :: is) (a :: m) = joinsGo db (scope a.other (tabD db i)) (tabD db i).rows is m := by
       unfold joinsAll
       rw [ha,hmark,join_first]
       simp only [List.nil_append]
       exact joinsAll_go db _ _ _ _ hm
     simp only [e1,e2,e3,List.drop_succ_cons,List.drop_zero,List.headD_cons]
     cases onsGo db (scope a.other (tabD db i)) is m with
     | some e=>rfl
     | none =>
       simp only
       cases tcAll (scopes db (i :: is) (a :: m)) (valuesOf s (scopes db (i :: is) (a :: m))) with
       | some e=>rfl
       | none =>
         simp only
         cases tcAs (scopes db (i :: is) (a :: m)) (cond s.whr) 3 with
         | some e=>rfl
         | none =>
           simp only
           cases tcAll (scopes db (i :: is) (a :: m)) (s.keys.map (·.tree)) with
           | some e=>rfl
           | none =>
             simp only
             cases joinsGo db (scope a.other (tabD db i)) (tabD db i).rows is m with
             | error e=>rfl
             | ok rows =>
               simp only
               cases chosen (scopes db (i :: is) (a :: m)) s rows with
               | error e=>rfl
               | ok out=>rfl
theorem beside_ok {a b:List Col} {c:T} {r:List V} (hr:RowFor a r):∀ {qs z:List (List V)},(∀ q ∈ qs,RowFor b q) -> beside (a ++ b) c r qs = .ok z -> (∀ x ∈ z,RowFor (a ++ b) x) /\ z.length <= qs.length
 | [],z,_,h=>by simp [beside] at h; subst h; simp
 | q :: qs,z,hq,h=>by
   unfold beside at h
   cases he:ev (a ++ b) (r ++ q) c with
   | error e=>rw [he] at h; cases h
   | ok v =>
     rw [he] at h
     simp only at h
     cases hs:beside (a ++ b) c r qs with
     | error e=>rw [hs] at h; cases h
     | ok y =>
       rw [hs] at h
       simp only at h
       injection h with h
       obtain ⟨h1,h2⟩ := beside_ok hr (fun q h=>hq q (by simp [h])) hs
       split at h
       · subst h
         refine ⟨fun x hx=>?_,by simp; omega⟩
         rcases List.mem_cons.1 hx with rfl | hx
         · exact hr.append (hq q (by simp))
         · exact h1 x hx
       · subst h
         exact ⟨h1,by simp; omega⟩
theorem joinRows_ok {a b:List Col} {c:T} {left:Bool} {qs:List (List V)} (hq:∀ q ∈ qs,RowFor b q) (h25:qs.length <= 25):∀ {rows z:List (List V)},(∀ r ∈ rows,RowFor a r) -> joinRows (a ++ b) c left b.length qs rows = .ok z -> (∀ x ∈ z,RowFor (a ++ b) x) /\ z.length <= rows.length * 25
 | [],z,_,h=>by simp [joinRows] at h; subst h; simp
 | r :: rs,z,hr,h=>by
   unfold joinRows at h
   cases he:beside (a ++ b) c r qs with
   | error e=>rw [he] at h; cases h
   | ok y =>
     rw [he] at h
     simp only at h
     cases hs:joinRows (a ++ b) c left b.length qs rs with
     | error e=>rw [hs] at h; cases h
     | ok u =>
       rw [hs] at h
       simp only at h
       injection h with h
       obtain ⟨h1,h2⟩ := beside_ok (hr r (by simp)) hq he
       obtain ⟨h3,h4⟩ := joinRows_ok hq h25 (fun r h=>hr r (by simp [h])) hs
       subst h
       constructor
       · intro x hx
         rcases List.mem_append.1 hx with hx | hx
         · split at hx
           · simp at hx; subst hx
             exact (hr r (by simp)).append (RowFor.nuls b)
           · exact h1 x hx
         · exact h3 x hx
       · rw [List.length_append,List.length_cons]
         have:(if (left && y.isEmpty) = true then [r ++ List.replicate b.length nul] else y).length <= 25 := by
           split
           · simp
           · omega
         omega
theorem joinsAll_ok {db:DB} (h:okDB db):∀ {is:List Nat} {its:List It} {cols:List Col} {rows z:List (List V)},is.length = its.length -> (∀ i ∈ is,i < db.length) -> (∀ r ∈ rows,RowFor cols r) -> joinsAll db cols rows is its = .ok z -> (∀ x ∈ z,RowFor (cols ++ scopes db is its) x) /\ z.length <= rows.length * 25 ^ is.length
 | [],its,cols,rows,z,hl,_,hr,hz=>by
   cases its with
   | nil=>simp [joinsAll] at hz; subst hz; simpa [scopes] using hr
   | cons=>simp at hl
 | i :: is,[],cols,rows,z,hl,_,hr,hz=>by simp at hl
 | i :: is,it :: its,cols,rows,z,hl,hi,hr,hz=>by
   unfold joinsAll at hz
   have htab := h.2 _ (tabD_mem (hi i (by simp)))
   cases he:joinRows (cols ++ scope it.other (tabD db i)) (cond it.tree) it.mark (tabD db i).cols.length (tabD db i).rows rows with
   | error e=>rw [he] at hz; cases hz
   | ok y =>
     rw [he] at hz
     rw [<- scope_len it.other] at he
     obtain ⟨h1,h2⟩ := joinRows_ok (fun q hq=>(htab.rows q hq).src) htab.nrows hr he
     obtain ⟨h3,h4⟩ := joinsAll_ok h (by simpa using hl) (fun j hj=>hi j (by simp [hj])) h1 hz
     refine ⟨fun x hx=>by have := h3 x hx; simpa [scopes] using this,?_⟩
     rw [List.length_cons,Nat.pow_succ]
     calc z.length <= y.length * 25 ^ is.length := h4
       _ <= rows.length * 25 * 25 ^ is.length := Nat.mul_le_mul_right _ h2
       _ = rows.length * (25 ^ is.length * 25) := by rw [Nat.mul_assoc,Nat.mul_comm 25]
theorem evRows_ok {cols:List Col} {ts:List T} (ht:∀ t ∈ ts,okT t):∀ {rows out:List (List V)},(∀ r ∈ rows,RowFor cols r) -> evRows cols ts rows = .ok out -> out.length = rows.length /\ ∀ v ∈ out,v.length = ts.length /\ okRow v
 | [],out,_,h=>by simp [evRows] at h; subst h; simp
 | r :: rs,out,hr,h=>by
   unfold evRows at h
   cases he:evAll cols r ts with
   | error e=>rw [he] at h; cases h
   | ok v =>
     rw [he] at h
     simp only at h
     cases hs:evRows cols ts rs with
     | error e=>rw [hs] at h; cases h
     | ok us =>
       rw [hs] at h
       simp at h; subst h
       obtain ⟨a,b⟩ := evRows_ok ht (fun r h=>hr r (by simp [h])) hs
       refine ⟨by simp [a],fun u hu=>?_⟩
       rcases List.mem_cons.1 hu with rfl | hu
       · exact evAll_ok (hr r (by simp)) ht he
       · exact b u hu
theorem evRows_types {cols:List Col} {ts:List T} (ht:∀ t ∈ ts,okT t) (hty:∀ t ∈ ts,∃ ty,tc cols t = .ok ty):∀ {rows out:List (List V)},(∀ r ∈ rows,RowFor cols r) -> evRows cols ts rows = .ok out -> ∀ v ∈ out,ranksOf (tysOf cols ts) v
 | [],out,_,h=>by simp [evRows] at h; subst h; simp
 | r :: rs,out,hr,h=>by
   unfold evRows at h
   cases he:evAll cols r ts with
   | error e=>rw [he] at h; cases h
   | ok v =>
     rw [he] at h
     simp only at h
     cases hs:evRows cols ts rs with
     | error e=>rw [hs] at h; cases h
     | ok us =>
       rw [hs] at h
       simp at h; subst h
       intro u hu
       rcases List.mem_cons.1 hu with rfl | hu
       · exact evAll_types (hr r (by simp)) ht hty he
       · exact evRows_types ht hty (fun r h=>hr r (by simp [h])) hs u hu
theorem ins_done {α:Type} {le:α -> α -> Bool} (h:Ord le) {p q:List α} {x:α} (hs:(p ++ q).Pairwise (fun a b=>le a b = true)) (hp:p = [] \/ ∃ y p',p = p' ++ [y] /\ le y x = true) (hq:∀ y ∈ q,le y x = false):mrg le (p ++ q) [x] = p ++ x :: q := by
 refine mrg_last ?_ hq
 rcases hp with rfl | ⟨y,p',rfl,hy⟩
 · simp
 · intro z hz
   rcases List.mem_append.1 hz with hz | hz
   · rw [List.append_assoc,List.pairwise_append] at hs
     exact h.trans _ _ _ (hs.2.2 z hz y (by simp)) hy
   · simp at hz; subst hz; exact hy
end Pl
namespace Pl
open Go.Deep
theorem exec_insert {db:DB} {text:List UInt8} {s:St} (hp:pParse text = some s) (hk:s.kind = 105):exec db text = doInsert db s := by
 unfold exec; rw [hp]; simp only; unfold doSt; rw [if_neg (by omega),if_pos hk]
theorem exec_select {db:DB} {text:List UInt8} {s:St} (hp:pParse text = some s) (hk:s.kind = 115):exec db text = doSelect db s := by
 unfold exec; rw [hp]; simp only; unfold doSt; rw [if_neg (by omega),if_neg (by omega),if_neg (by omega),if_neg (by omega)]
theorem doInsert_of {db:DB} {s:St} {i:Nat} {row:List V} (h1:tabAt db s.table = some i) (h2:s.items.length = (tabD db i).cols.length) (h3:tcRow (s.items.map (·.tree)) ((tabD db i).cols.map (·.2)) = none) (h4:evAll [] [] (s.items.map (·.tree)) = .ok row) (h5:(tabD db i).rows.length ≠ 25):doInsert db s = (setRows db i ((tabD db i).rows ++ [row]),⟨[],1,0⟩) := by
 unfold doInsert
 rw [h1]
 simp only
 rw [if_neg (fun h=>h h2),h3]
 simp only
 rw [h4]
 simp only
 rw [if_neg h5]
theorem doSelect_of {db:DB} {s:St} {is:List Nat} {cols:List Col} {rows:List (List V)} (h1:srcsGo db [] s.sources = .ok is) (hc:scopes db is s.sources = cols) (h2:onsGo db (scopes db (is.take 1) (s.sources.take 1)) (is.drop 1) (s.sources.drop 1) = none) (h3:tcAll cols (valuesOf s cols) = none) (h4:tcAs cols (cond s.whr) 3 = none) (h5:tcAll cols (s.keys.map (·.tree)) = none)
   (h6:joinsGo db (scopes db (is.take 1) (s.sources.take 1)) (tabD db (is.headD 0)).rows (is.drop 1) (s.sources.drop 1) = .ok rows):doSelect db s = match chosen cols s rows with
     | .error e=>(db,no e)
     | .ok out=>(db,⟨out,0,0⟩) := by
 unfold doSelect
 rw [h1]
 simp only
 rw [h2,hc]
 simp only
 rw [h3]
 simp only
 rw [h4]
 simp only
 rw [h5]
 simp only
 rw [h6]
 simp only
 cases chosen cols s rows <;> rfl
def nV (n:Int):V := ⟨1,n,[]⟩
theorem numP_len {n:Int} (h:in64 n):(numP n).length <= 30 := by
 unfold numP
 split
 · decide
 split
 · have := (dec_ok (n := (-n).toNat) (by unfold in64 at h; omega)).2.2.2; simp; omega
 · have := (dec_ok (n := n.toNat) (by unfold in64 at h; omega)).2.2.2; omega
def numPc (n:Int):Pc := ⟨numP n,numK n,numT n⟩
theorem numPc_ok {n:Int} (h:in64 n):(numPc n).ok := ⟨numP_cl h,(numK_vl n).mono (by decide),by
 show numK n ≠ []
 unfold numK; split
 · simp
 split <;> simp⟩
end Pl
namespace Pl
open Go.Deep
def pickN (c:Int) (n:Nat):Nat := ((if c < 0 then -(c + 1) else c) % n).toNat
theorem pickN_lt (c:Int) {n:Nat} (h:0 < n):pickN c n < n := by
 unfold pickN
 have h1 := Int.emod_nonneg (if c < 0 then -(c + 1) else c) (show (n:Int) ≠ 0 by omega)
 have h2 := Int.emod_lt_of_pos (if c < 0 then -(c + 1) else c) (show 0 < (n:Int) by omega)
 omega
def bCreateT:List UInt8 := [67,82,69,65,84,69,32,84,65,66,76,69,32,116,32,40,97,32,73,78,84,44,32,98,32,84,69,88,84,44,32,99,32,66,79,79,76,41]
def bCreateU:List UInt8 := [67,82,69,65,84,69,32,84,65,66,76,69,32,117,32,40,97,32,73,78,84,44,32,100,32,73,78,84,41]
def bFirst:List UInt8 := [73,78,83,69,82,84,32,73,78,84,79,32,116,32,86,65,76,85,69,83,32,40,53,44,32,39,102,105,118,101,39,44,32,84,82,85,69,41]
def bTab (rt ru:List (List V)):DB := [⟨[116],[([97],1),([98],2),([99],3)],rt⟩,⟨[117],[([97],1),([100],1)],ru⟩]
def tV (s:List UInt8):V := ⟨2,0,s⟩
def five:List UInt8 := [102,105,118,101]
theorem b_createT:exec [] bCreateT = ([⟨[116],[([97],1),([98],2),([99],3)],[]⟩],⟨[],0,0⟩) := by kernel_rfl
theorem b_createU:exec [⟨[116],[([97],1),([98],2),([99],3)],[]⟩] bCreateU = (bTab [] [],⟨[],0,0⟩) := by kernel_rfl
def row0:List V := [nV 5,tV five,tru true]
theorem b_first:exec (bTab [] []) bFirst = (bTab [row0] [],⟨[],1,0⟩) := by kernel_rfl
structure Good1 (p:Pc) (v:V) (ty:Int):Prop where
 ok:p.ok
 ev:∀ cols row,ev cols row p.t = .ok v
 tc:∀ cols,∃ a,tc cols p.t = .ok a /\ alike a ty = true
 okt:okT p.t
 len:p.x.length <= 60
def pcNull:Pc := ⟨[78,85,76,76],[kt 45],tLit 0 0 []⟩
theorem pcNull_good (ty:Int):Good1 pcNull nul ty := ⟨⟨cl_kw _ 45 rfl rfl (by kernel_rfl) (by decide),Sg.null.value.mono (by decide),by simp [pcNull]⟩,fun _ _=>rfl,fun _=>⟨0,rfl,by simp [alike]⟩,by
 obtain ⟨a,b,c⟩ := lit_good (kind := 0) (n := 0) (s := []) (.inl ⟨rfl,rfl,rfl⟩)
 exact ⟨a,b,by show sz (tLit 0 0 []) <= 600; rw [c]; decide⟩,by decide⟩
theorem pcNum_good {n:Int} (h:in64 n):Good1 (numPc n) (nV n) 1 := ⟨numPc_ok h,fun cols row=>numT_ev h cols row,fun cols=>⟨1,numT_tc n cols,rfl⟩,numT_ok h,by have := numP_len h; show (numP n).length <= 60; omega⟩
def pcText (s:List UInt8):Pc := ⟨39 :: (quote s ++ [39]),[⟨3,0,s⟩],tLit 2 0 s⟩
theorem quote_len:∀ s:List UInt8,(quote s).length <= 2 * s.length
 | []=>by simp [quote]
 | c :: s=>by
   have := quote_len s
   unfold quote
   split <;> simp <;> omega
theorem pcText_ok {s:List UInt8} (h:s.length <= 40):(pcText s).ok := ⟨fun y hy=>by
   show toks (39 :: (quote s ++ [39] ++ y)) = _
   rw [List.append_assoc]
   exact toks_text h (sep_not39 hy),(Sg.text s).value.mono (by decide),by simp [pcText]⟩
theorem text_okT {s:List UInt8} (h:s.length <= 40):okT (tLit 2 0 s) := by
 obtain ⟨a,b,c⟩ := lit_good (kind := 2) (n := 0) (s := s) (.inr (.inr (.inl ⟨rfl,rfl,h⟩)))
 exact ⟨a,b,by rw [c]; decide⟩
theorem pcText_good {s:List UInt8} (h:s.length <= 20):Good1 (pcText s) (tV s) 2 := ⟨pcText_ok (by omega),fun _ _=>rfl,fun _=>⟨2,rfl,rfl⟩,text_okT (by omega),by
 have := quote_len s
 show (39 :: (quote s ++ [39])).length <= 60
 simp; omega⟩
def pcTrue:Pc := ⟨[84,82,85,69],[kt 46],tLit 3 1 []⟩
def pcFalse:Pc := ⟨[70,65,76,83,69],[kt 47],tLit 3 0 []⟩
theorem pcTrue_good:Good1 pcTrue (tru true) 3 := ⟨⟨cl_kw _ 46 rfl rfl (by kernel_rfl) (by decide),Sg.yes.value.mono (by decide),by simp [pcTrue]⟩,fun _ _=>rfl,fun _=>⟨3,rfl,rfl⟩,by
 obtain ⟨a,b,c⟩ := lit_good (kind := 3) (n := 1) (s := []) (.inr (.inr (.inr ⟨rfl,.inr rfl,rfl⟩)))
 exact ⟨a,b,by show sz (tLit 3 1 []) <= 600; rw [c]; decide⟩,by decide⟩
theorem pcFalse_good:Good1 pcFalse (tru false) 3 := ⟨⟨cl_kw _ 47 rfl rfl (by kernel_rfl) (by decide),Sg.not_.value.mono (by decide),by simp [pcFalse]⟩,fun _ _=>rfl,fun _=>⟨3,rfl,rfl⟩,by
 obtain ⟨a,b,c⟩ := lit_good (kind := 3) (n := 0) (s := []) (.inr (.inr (.inr ⟨rfl,.inl rfl,rfl⟩)))
 exact ⟨a,b,by show sz (tLit 3 0 []) <= 600; rw [c]; decide⟩,by decide⟩
def Goods:List Pc -> List V -> List Int -> Prop
 | [],[],[]=>True
 | p :: ps,v :: vs,t :: ts=>Good1 p v t /\ Goods ps vs ts
 | _,_,_=>False
theorem Goods.nil:Goods [] [] [] := trivial
theorem Goods.cons {p:Pc} {v:V} {t:Int} {ps:List Pc} {vs:List V} {ts:List Int} (h:Good1 p v t) (k:Goods ps vs ts):Goods (p :: ps) (v :: vs) (t :: ts) := ⟨h,k⟩
theorem Goods.len:∀ {ps:List Pc} {vs:List V} {ts:List Int},Goods ps vs ts -> vs.length = ps.length /\ ts.length = ps.length
 | [],[],[],_=>⟨rfl,rfl⟩
 | p :: ps,v :: vs,t :: ts,h=>by have := Goods.len h.2; simp [this]
 | [],_ :: _,_,h=>h.elim
 | [],[],_ :: _,h=>h.elim
 | _ :: _,[],_,h=>h.elim
 | _ :: _,_ :: _,[],h=>h.elim
theorem Goods.all:∀ {ps:List Pc} {vs:List V} {ts:List Int},Goods ps vs ts -> ∀ p ∈ ps,p.ok
 | [],_,_,_,p,hp=>by cases hp
 | q :: ps,v :: vs,t :: ts,h,p,hp=>by
   rcases List.mem_cons.1 hp with rfl | hp
   · exact h.1.ok
   · exact Goods.all h.2 p hp
 | _ :: _,[],_,h,_,_=>h.elim
 | _ :: _,_ :: _,[],h,_,_=>h.elim
theorem Goods.ev:∀ {ps:List Pc} {vs:List V} {ts:List Int},Goods ps vs ts -> evAll [] [] (ps.map (·.t)) = .ok vs
 | [],[],[],_=>rfl
 | q :: ps,v :: vs,t :: ts,h=>by
   show evAll [] [] (q.t :: ps.map (·.t)) = _
   unfold evAll
   rw [h.1.ev,Goods.ev h.2]
 | [],_ :: _,_,h=>h.elim
 | [],[],_ :: _,h=>h.elim
 | _ :: _,[],_,h=>h.elim
 | _ :: _,_ :: _,[],h=>h.elim
theorem Goods.tc:∀ {ps:List Pc} {vs:List V} {ts:List Int},Goods ps vs ts -> tcRow (ps.map (·.t)) ts = none
 | [],[],[],_=>rfl
 | q :: ps,v :: vs,t :: ts,h=>by
   obtain ⟨a,h1,h2⟩ := h.1.tc []
   show tcRow (q.t :: ps.map (·.t)) (t :: ts) = _
   unfold tcRow tcAs
   rw [h1]
   simp only
   rw [if_pos h2]
   exact Goods.tc h.2
 | [],_ :: _,_,h=>h.elim
 | [],[],_ :: _,h=>h.elim
 | _ :: _,[],_,h=>h.elim
 | _ :: _,_ :: _,[],h=>h.elim
theorem ins_exec {db:DB} {name:List UInt8} (hn:NameOk name) {i:Nat} (hi:tabAt db name = some i) {ps:List Pc} {vs:List V} (hg:Goods ps vs ((tabD db i).cols.map (·.2))) (hne:ps ≠ []) (hr:(tabD db i).rows.length ≠ 25) {tail:List UInt8} (ht:toks tail = []) (hl:(insText name (ps.map (·.x)) tail).length <= 600):exec db (insText name (ps.map (·.x)) tail) = (setRows db i ((tabD db i).rows ++ [vs]),⟨[],1,0⟩) := by
 have hp := ins_parse hn hg.all hne ht hl
 have e:(st0 105 name (ps.map (fun p=>itV p.t)) .nil).items.map (·.tree) = ps.map (·.t) := by
   show (ps.map (fun p=>itV p.t)).map (·.tree) = _
   rw [List.map_map]; rfl
 rw [exec_insert hp rfl]
 have h2 := hg.len.2
 simp only [List.length_map] at h2
 refine doInsert_of (s := st0 105 name (ps.map (fun p=>itV p.t)) .nil) hi ?_ ?_ ?_ hr
 · show (ps.map (fun p=>itV p.t)).length = _
   simp; omega
 · rw [e]; exact hg.tc
 · rw [e]; exact hg.ev
def pcA (k:Nat):Pc := match k with | 0=>pcNull | 1=>numPc 0 | 2=>numPc 1 | 3=>numPc 2 | 4=>numPc (-3) | _=>numPc 5
def vA (k:Nat):V := match k with | 0=>nul | 1=>nV 0 | 2=>nV 1 | 3=>nV 2 | 4=>nV (-3) | _=>nV 5
def pcB (k:Nat):Pc := match k with | 0=>pcNull | 1=>pcText [120] | 2=>pcText [121] | 3=>pcText five | _=>pcText []
def vB (k:Nat):V := match k with | 0=>nul | 1=>tV [120] | 2=>tV [121] | 3=>tV five | _=>tV []
def pcC (k:Nat):Pc := match k with | 0=>pcNull | 1=>pcTrue | _=>pcFalse
def vC' (k:Nat):V := match k with | 0=>nul | 1=>tru true | _=>tru false
theorem goodA (k:Nat):Good1 (pcA k) (vA k) 1 := by
 unfold pcA vA
 split
 · exact pcNull_good 1
 all_goals exact pcNum_good (by decide)
theorem goodB (k:Nat):Good1 (pcB k) (vB k) 2 := by
 unfold pcB vB
 split
 · exact pcNull_good 2
 all_goals exact pcText_good (by decide)
theorem goodC (k:Nat):Good1 (pcC k) (vC' k) 3 := by
 unfold pcC vC'
 split
 · exact pcNull_good 3
 · exact pcTrue_good
 · exact pcFalse_good
def bT (v:Nat):List Pc := [pcA (v % 6),pcB (v / 8 % 5),pcC (v / 64 % 3)]
def bU (v:Nat):List Pc := [pcA (v % 6),numPc ((v / 256 % 4:Nat):Int)]
def rowT (v:Nat):List V := [vA (v % 6),vB (v / 8 % 5),vC' (v / 64 % 3)]
def rowU (v:Nat):List V := [vA (v % 6),nV ((v / 256 % 4:Nat):Int)]
def nT:List UInt8 := [116]
def nU:List UInt8 := [117]
theorem nT_ok:NameOk nT := ⟨rfl,rfl,by kernel_rfl⟩
theorem nU_ok:NameOk nU := ⟨rfl,rfl,by kernel_rfl⟩
theorem tab_t (rt ru:List (List V)):tabAt (bTab rt ru) nT = some 0 := by simp [tabAt,bTab,nT,List.findIdx?_cons]
theorem tab_u (rt ru:List (List V)):tabAt (bTab rt ru) nU = some 1 := by simp [tabAt,bTab,nU,List.findIdx?_cons]
theorem b_insT {rt ru:List (List V)} (v:Nat) (h:rt.length < 25):exec (bTab rt ru) (insText nT ((bT v).map (·.x)) []) = (bTab (rt ++ [rowT v]) ru,⟨[],1,0⟩) := by
 have hg:Goods (bT v) (rowT v) [1,2,3] := .cons (goodA _) (.cons (goodB _) (.cons (goodC _) .nil))
 rw [ins_exec nT_ok (tab_t rt ru) hg (by simp [bT]) (show rt.length ≠ 25 by omega) rfl ?_]
 · rfl
 · have h1 := (goodA (v % 6)).len
   have h2 := (goodB (v / 8 % 5)).len
   have h3 := (goodC (v / 64 % 3)).len
   simp [insText,nT,bT,sepJoin]
   omega
theorem b_insU {rt ru:List (List V)} (v:Nat) (h:ru.length < 25):exec (bTab rt ru) (insText nU ((bU v).map (·.x)) []) = (bTab rt (ru ++ [rowU v]),⟨[],1,0⟩) := by
 have hd:Good1 (numPc ((v / 256 % 4:Nat):Int)) (nV ((v / 256 % 4:Nat):Int)) 1 := pcNum_good (by unfold in64; omega)
 have hg:Goods (bU v) (rowU v) [1,1] := .cons (goodA _) (.cons hd .nil)
 rw [ins_exec nU_ok (tab_u rt ru) hg (by simp [bU]) (show ru.length ≠ 25 by omega) rfl ?_]
 · rfl
 · have h1 := (goodA (v % 6)).len
   have h2 := hd.len
   simp [insText,nU,bU,sepJoin] at h2 ⊢
   omega
theorem b_parseT (v:Nat):(insText nT ((bT v).map (·.x)) []).length <= 600 /\ (pParse (insText nT ((bT v).map (·.x)) [])).map (·.kind) = some 105 := by
 have hg:Goods (bT v) (rowT v) [1,2,3] := .cons (goodA _) (.cons (goodB _) (.cons (goodC _) .nil))
 have hl:(insText nT ((bT v).map (·.x)) []).length <= 600 := by
   have h1 := (goodA (v % 6)).len
   have h2 := (goodB (v / 8 % 5)).len
   have h3 := (goodC (v / 64 % 3)).len
   simp [insText,nT,bT,sepJoin]
   omega
 exact ⟨hl,by rw [ins_parse nT_ok hg.all (by simp [bT]) rfl hl]; rfl⟩
theorem b_parseU (v:Nat):(insText nU ((bU v).map (·.x)) []).length <= 600 /\ (pParse (insText nU ((bU v).map (·.x)) [])).map (·.kind) = some 105 := by
 have hd:Good1 (numPc ((v / 256 % 4:Nat):Int)) (nV ((v / 256 % 4:Nat):Int)) 1 := pcNum_good (by unfold in64; omega)
 have hg:Goods (bU v) (rowU v) [1,1] := .cons (goodA _) (.cons hd .nil)
 have hl:(insText nU ((bU v).map (·.x)) []).length <= 600 := by
   have h1 := (goodA (v % 6)).len
   have h2 := hd.len
   simp [insText,nU,bU,sepJoin] at h2 ⊢
   omega
 exact ⟨hl,by rw [ins_parse nU_ok hg.all (by simp [bU]) rfl hl]; rfl⟩
def baseGo:Nat -> List Int -> List (List V) -> List (List V) -> List (List V) × List (List V)
 | _,[],rt,ru=>(rt,ru)
 | i,c :: cs,rt,ru=>if 14 <= i then (rt,ru) else if i % 2 = 0 then baseGo (i + 1) cs (rt ++ [rowT (pickN c 1099511627776)]) ru else baseGo (i + 1) cs rt (ru ++ [rowU (pickN c 1099511627776)])
def baseRows (raw:List Int):List (List V) × List (List V) := baseGo 0 raw [row0] []
def baseDb (raw:List Int):DB := bTab (baseRows raw).1 (baseRows raw).2
end Pl
namespace Pl
open Go.Deep
structure SgP (n:Nat) (p:Pc):Prop where
 cl:Cl p.x p.ts
 sg:Sg n p.ts p.t
 ne:p.ts ≠ []
 wf:Wf p.t /\ WfK p.t
theorem SgP.mono {n m:Nat} {p:Pc} (h:SgP n p) (hm:n <= m):SgP m p := ⟨h.cl,h.sg.mono hm,h.ne,h.wf⟩
theorem SgP.ok {n:Nat} {p:Pc} (h:SgP n p) (hn:n <= 20):p.ok := ⟨h.cl,h.sg.value.mono hn,h.ne⟩
def nA:List UInt8 := [97]
def nB:List UInt8 := [98]
def nC:List UInt8 := [99]
end Pl
end Go.Proofs.YtojdpjpldokjmaaGreatDoor
namespace Go.Proofs.YtojdpjpldokjmaaGreatDoor.Pl
theorem beside_len {cols:List Col} {c:T} {r:List V}:∀ {qs z:List (List V)},beside cols c r qs = .ok z -> z.length <= qs.length
 | [],z,h=>by simp [beside] at h; subst h; simp
 | q :: qs,z,h=>by
   unfold beside at h
   cases he:ev cols (r ++ q) c with
   | error e=>rw [he] at h; cases h
   | ok v =>
     rw [he] at h
     simp only at h
     cases hs:beside cols c r qs with
     | error e=>rw [hs] at h; cases h
     | ok y =>
       rw [hs] at h
       simp only at h
       injection h with h
       have h2 := beside_len hs
       split at h <;> (subst h; simp; omega)
theorem joinRows_len {cols:List Col} {c:T} {left:Bool} {n m:Nat} {qs:List (List V)} (hq:qs.length <= m) (hm:1 <= m):∀ {rows z:List (List V)},joinRows cols c left n qs rows = .ok z -> z.length <= rows.length * m
 | [],z,h=>by simp [joinRows] at h; subst h; simp
 | r :: rs,z,h=>by
   unfold joinRows at h
   cases he:beside cols c r qs with
   | error e=>rw [he] at h; cases h
   | ok y =>
     rw [he] at h
     simp only at h
     cases hs:joinRows cols c left n qs rs with
     | error e=>rw [hs] at h; cases h
     | ok u =>
       rw [hs] at h
       simp only at h
       injection h with h
       have h2 := beside_len he
       have h4 := joinRows_len hq hm hs
       subst h
       rw [List.length_append,List.length_cons,Nat.add_mul]
       have:(if (left && y.isEmpty) = true then [r ++ List.replicate n nul] else y).length <= m := by
         split
         · simpa using hm
         · omega
       omega
theorem tabD_len {db:DB} {m:Nat} (h:∀ t ∈ db,t.rows.length <= m) (i:Nat):(tabD db i).rows.length <= m := by
 by_cases hi:i < db.length
 · exact h _ (tabD_mem hi)
 · unfold tabD
   rw [List.getD_eq_getElem?_getD,List.getElem?_eq_none (by omega)]
   simp
theorem joinsAll_len {db:DB} {m:Nat} (h:∀ t ∈ db,t.rows.length <= m) (hm:1 <= m):∀ {is:List Nat} {its:List It} {cols:List Col} {rows z:List (List V)},joinsAll db cols rows is its = .ok z -> z.length <= rows.length * m ^ its.length
 | [],its,cols,rows,z,hj=>by
   have e:joinsAll db cols rows [] its = .ok rows := by cases its <;> rfl
   rw [e] at hj; cases hj
   exact Nat.le_mul_of_pos_right _ (Nat.pow_pos (by omega))
 | i :: is,[],cols,rows,z,hj=>by
   have e:joinsAll db cols rows (i :: is) [] = .ok rows := rfl
   rw [e] at hj; cases hj; simp
 | i :: is,it :: its,cols,rows,z,hj=>by
   unfold joinsAll at hj
   cases he:joinRows (cols ++ scope it.other (tabD db i)) (cond it.tree) it.mark (tabD db i).cols.length (tabD db i).rows rows with
   | error e=>rw [he] at hj; cases hj
   | ok y =>
     rw [he] at hj
     simp only at hj
     have h1 := joinRows_len (tabD_len h i) hm he
     have h2 := joinsAll_len h hm hj
     rw [List.length_cons,Nat.pow_succ,Nat.mul_comm (m ^ its.length) m,<- Nat.mul_assoc]
     exact Nat.le_trans h2 (Nat.mul_le_mul_right _ h1)
end Go.Proofs.YtojdpjpldokjmaaGreatDoor.Pl
namespace Go.Proofs.YtojdpjpldokjmaaGreatDoor
namespace Pl
open Go.Deep
set_option linter.unusedVariables false
set_option linter.unusedSimpArgs false
def xAll:List UInt8 := [83,69,76,69,67,84,32,42,32,70,82,79,77,32,116]
theorem sp {r:List UInt8}:Sep (32 :: r) := sep_cons (.inl rfl)
def srcT:It := ⟨nT,nT,0,.nil,false⟩
def selSt (all:Bool) (items:List It) (t:T):St := ⟨115,[],items,[srcT],t,[],false,all,-1,0⟩
theorem p_all:pParse xAll = some (selSt true [] .nil) := by kernel_rfl
end Pl
namespace Pl
open Go.Deep
set_option linter.unusedVariables false
set_option linter.unusedSimpArgs false
def tCols:List Col := [⟨nT,[97],1⟩,⟨nT,[98],2⟩,⟨nT,[99],3⟩]
def NumV (B:Int) (v:V):Prop := v = nul \/ ∃ n,v = nV n /\ -B <= n /\ n <= B
def BoolV (v:V):Prop := v = nul \/ ∃ b,v = tru b
def TRow (r:List V):Prop := ∃ a b c,r = [a,b,c] /\ NumV 5 a /\ (b = nul \/ ∃ s,b = tV s) /\ BoolV c
theorem vA_num (k:Nat):NumV 5 (vA k) := by
 unfold vA
 split
 · exact .inl rfl
 all_goals exact .inr ⟨_,rfl,by decide,by decide⟩
theorem rowT_t (v:Nat):TRow (rowT v) := ⟨_,_,_,rfl,vA_num _,by
 unfold vB
 split
 · exact .inl rfl
 all_goals exact .inr ⟨_,rfl⟩,by
 unfold vC'
 split
 · exact .inl rfl
 all_goals exact .inr ⟨_,rfl⟩⟩
theorem row0_t:TRow row0 := ⟨_,_,_,rfl,.inr ⟨5,rfl,by decide,by decide⟩,.inr ⟨_,rfl⟩,.inr ⟨true,rfl⟩⟩
structure NumOk (B:Int) (t:T):Prop where
 tc:tc tCols t = .ok 1 \/ tc tCols t = .ok 0
 ev:∀ r,TRow r -> ∃ v,ev tCols r t = .ok v /\ NumV B v
structure BoolOk (t:T):Prop where
 tc:tc tCols t = .ok 3 \/ tc tCols t = .ok 0
 ev:∀ r,TRow r -> ∃ v,ev tCols r t = .ok v /\ BoolV v
theorem NumOk.mono {B C:Int} {t:T} (h:NumOk B t) (hb:B <= C):NumOk C t := ⟨h.tc,fun r hr=>by
 obtain ⟨v,h1,h2⟩ := h.ev r hr
 exact ⟨v,h1,h2.imp id (fun ⟨n,a,b,c⟩=>⟨n,a,by omega,by omega⟩)⟩⟩
end Pl
namespace Pl
open Go.Deep
set_option linter.unusedVariables false
set_option linter.unusedSimpArgs false
theorem NumOk.some {B:Int} {t:T} (h:NumOk B t):∀ r,TRow r -> ∃ v,Pl.ev tCols r t = .ok v := fun r hr=>by
 obtain ⟨v,h1,_⟩ := h.ev r hr
 exact ⟨v,h1⟩
theorem BoolOk.some {t:T} (h:BoolOk t):∀ r,TRow r -> ∃ v,Pl.ev tCols r t = .ok v := fun r hr=>by
 obtain ⟨v,h1,_⟩ := h.ev r hr
 exact ⟨v,h1⟩
def evV (t:T) (r:List V):V := match Pl.ev tCols r t with
 | .ok v=>v
 | .error _=>nul
theorem evV_ok {t:T} (h:BoolOk t) {r:List V} (hr:TRow r):Pl.ev tCols r t = .ok (evV t r) /\ BoolV (evV t r) := by
 obtain ⟨v,h1,h2⟩ := h.ev r hr
 unfold evV
 rw [h1]
 exact ⟨rfl,h2⟩
end Pl
namespace Pl
open Go.Deep
set_option linter.unusedVariables false
set_option linter.unusedSimpArgs false
theorem isort_all {α:Type} {le:α -> α -> Bool} (h:∀ a b,le a b = true):∀ l:List α,isort le l = l
 | []=>rfl
 | x :: xs=>by
   rw [isort,isort_all h xs]
   cases xs with
   | nil=>rfl
   | cons y ys=>rw [ins,if_pos (h x y)]
theorem zip_snd:∀ {a b:List (List V)},a.length = b.length -> (a.zip b).map (·.2) = b
 | [],[],_=>rfl
 | _ :: as,b :: bs,h=>by simp [zip_snd (a := as) (b := bs) (by simpa using h)]
 | [],_ :: _,h=>by simp at h
 | _ :: _,[],h=>by simp at h
theorem sorted_none {rows ranks:List (List V)} (h:ranks.length = rows.length):sorted rows ranks [] = rows := by
 unfold sorted
 rw [isort_all (fun a b=>by simp [cmpRanks]),zip_snd h]
def isYes (t:T) (r:List V):Bool := V.same (evV t r) (tru true)
theorem sift_ev {t:T} (h:BoolOk t):∀ {rows:List (List V)},(∀ r ∈ rows,TRow r) -> sift tCols t rows = .ok (rows.filter (isYes t),rows.filter (fun r=>!isYes t r))
 | [],_=>rfl
 | r :: rs,hr=>by
   have ih := sift_ev h (rows := rs) (fun x hx=>hr x (by simp [hx]))
   rw [sift,(evV_ok h (hr r (by simp))).1]
   simp only
   rw [ih]
   simp only
   by_cases hy:evV t r = tru true
   · have:isYes t r = true := V.same_yes hy
     rw [if_pos hy]
     simp [this]
   · have:isYes t r = false := V.same_no hy
     rw [if_neg hy]
     simp [this]
theorem evRows_map {cols:List Col} {ts:List T} {f:List V -> List V}:∀ {rows:List (List V)},(∀ r ∈ rows,evAll cols r ts = .ok (f r)) -> evRows cols ts rows = .ok (rows.map f)
 | [],_=>rfl
 | r :: rs,h=>by
   rw [evRows,h r (by simp)]
   simp only
   rw [evRows_map (fun x hx=>h x (by simp [hx]))]
   rfl
theorem tcAs_bool {t:T} (h:BoolOk t):tcAs tCols t 3 = none := by
 unfold tcAs
 rcases h.tc with h | h <;> rw [h] <;> rfl
theorem true_ok:BoolOk (cond .nil) := ⟨.inl rfl,fun r _=>⟨tru true,rfl,.inr ⟨true,rfl⟩⟩⟩
theorem window_all (rows:List (List V)):window rows 0 (-1) = rows := by simp [window]
theorem sel_done {rt ru:List (List V)} (hr:∀ r ∈ rt,TRow r) {all:Bool} {items:List It} {wh:T} (hw:BoolOk (cond wh)) {f:List V -> List V} (htc:tcAll tCols (valuesOf (selSt all items wh) tCols) = none) (hf:∀ r,TRow r -> evAll tCols r (valuesOf (selSt all items wh) tCols) = .ok (f r)) {text:List UInt8} (hp:pParse text = some (selSt all items wh)):exec (bTab rt ru) text = (bTab rt ru,⟨(rt.filter (isYes (cond wh))).map f,0,0⟩) := by
 rw [exec_select hp rfl]
 have s1:srcsGo (bTab rt ru) [] (selSt all items wh).sources = .ok [0] := by
   show srcsGo (bTab rt ru) [] [srcT] = _
   simp [srcsGo,srcT,tab_t]
 have c1:scopes (bTab rt ru) [0] (selSt all items wh).sources = tCols := rfl
 rw [doSelect_of (s := selSt all items wh) (is := [0]) (cols := tCols) (rows := rt) s1 c1 rfl htc (tcAs_bool hw) rfl rfl]
 have hch:chosen tCols (selSt all items wh) rt = .ok ((rt.filter (isYes (cond wh))).map f) := by
   unfold chosen
   rw [show (selSt all items wh).whr = wh from rfl,sift_ev hw hr]
   simp only
   have hk:evRows tCols ((selSt all items wh).keys.map (·.tree)) (rt.filter (isYes (cond wh))) = .ok ((rt.filter (isYes (cond wh))).map (fun _=>[])) := evRows_map (f := fun _=>[]) (fun r _=>rfl)
   rw [hk]
   simp only
   rw [show (selSt all items wh).keys.map (·.mark) = [] from rfl,sorted_none (by simp),evRows_map (f := f) (fun r hr' => hf r (hr r (List.mem_filter.1 hr').1))]
   simp only
   show Except.ok (window (if false = true then _ else _) 0 (-1)) = _
   rw [if_neg (by simp),window_all]
 rw [hch]
theorem star_tc (wh:T):tcAll tCols (valuesOf (selSt true [] wh) tCols) = none := rfl
theorem star_ev (wh:T) (r:List V) (h:TRow r):evAll tCols r (valuesOf (selSt true [] wh) tCols) = .ok (id r) := by
 obtain ⟨a,b,c,rfl,_⟩ := h
 rfl
theorem all_exec {rt ru:List (List V)} (hr:∀ r ∈ rt,TRow r):exec (bTab rt ru) xAll = (bTab rt ru,⟨rt,0,0⟩) := by
 have h := sel_done (ru := ru) hr (wh := .nil) true_ok (star_tc .nil) (star_ev .nil) p_all
 have e:rt.filter (isYes (cond .nil)) = rt := List.filter_eq_self.2 (fun r _=>rfl)
 rw [h,e]
 simp
theorem baseGo_t:∀ {cs:List Int} {i:Nat} {rt ru:List (List V)},(∀ r ∈ rt,TRow r) -> ∀ r ∈ (baseGo i cs rt ru).1,TRow r
 | [],i,rt,ru,h=>h
 | c :: cs,i,rt,ru,h=>by
   rw [baseGo]
   split
   · exact h
   · split
     · refine baseGo_t (fun r hr=>?_)
       rcases List.mem_append.1 hr with hr | hr
       · exact h r hr
       · simp at hr; subst hr; exact rowT_t _
     · exact baseGo_t h
theorem base_t (raw:List Int):∀ r ∈ (baseRows raw).1,TRow r := baseGo_t (fun r hr=>by simp at hr; subst hr; exact row0_t)
theorem baseGo_len:∀ {cs:List Int} {i:Nat} {rt ru:List (List V)},i <= 14 -> rt.length <= i / 2 + i % 2 + 1 -> ru.length <= i / 2 -> (baseGo i cs rt ru).1.length <= 8 /\ (baseGo i cs rt ru).2.length <= 7 /\ rt.length <= (baseGo i cs rt ru).1.length
 | [],i,rt,ru,hi,h1,h2=>by simp only [baseGo]; omega
 | c :: cs,i,rt,ru,hi,h1,h2=>by
   rw [baseGo]
   split
   · simp only; omega
   · split
     · have := baseGo_len (cs := cs) (i := i + 1) (rt := rt ++ [rowT (pickN c 1099511627776)]) (ru := ru) (by omega) (by simp; omega) (by omega)
       simp at this
       omega
     · have := baseGo_len (cs := cs) (i := i + 1) (rt := rt) (ru := ru ++ [rowU (pickN c 1099511627776)]) (by omega) (by omega) (by simp; omega)
       omega
theorem base_len (raw:List Int):(baseRows raw).1.length <= 8 /\ (baseRows raw).2.length <= 7 /\ 1 <= (baseRows raw).1.length := by
 have := baseGo_len (cs := raw) (i := 0) (rt := [row0]) (ru := []) (by omega) (by simp) (by simp)
 simpa [baseRows] using this
end Pl
namespace Pl
open Go.Deep
set_option linter.unusedVariables false
set_option linter.unusedSimpArgs false
def isNo (t:T) (r:List V):Bool := V.same (evV t r) (tru false)
def isNil (t:T) (r:List V):Bool := V.same (evV t r) nul
theorem k_all:∃ s,pParse xAll = some s /\ s.kind = 115 /\ s.distinct = false /\ s.sources.length = 1 := ⟨_,p_all,rfl,rfl,rfl⟩
theorem three {t:T} (h:BoolOk t) {r:List V} (hr:TRow r):(evV t r = nul /\ isNil t r = true /\ isYes t r = false /\ isNo t r = false) \/ (evV t r = tru true /\ isNil t r = false /\ isYes t r = true /\ isNo t r = false) \/ (evV t r = tru false /\ isNil t r = false /\ isYes t r = false /\ isNo t r = true) := by
 unfold isNil isYes isNo
 rcases (evV_ok h hr).2 with e | ⟨b,e⟩
 · rw [e]; exact .inl ⟨rfl,rfl,rfl,rfl⟩
 · rw [e]
   cases b
   · exact .inr (.inr ⟨rfl,rfl,rfl,rfl⟩)
   · exact .inr (.inl ⟨rfl,rfl,rfl,rfl⟩)
end Pl
namespace Pl
open Go.Deep
set_option linter.unusedVariables false
set_option linter.unusedSimpArgs false
end Pl
end Go.Proofs.YtojdpjpldokjmaaGreatDoor
