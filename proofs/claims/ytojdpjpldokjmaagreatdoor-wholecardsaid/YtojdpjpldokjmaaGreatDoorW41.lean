/- Whole's statements and their answers: plainly. Nothing of the program in it. -/
import Derived.Test.YtojdpjpldokjmaaGreatDoorW34
set_option maxHeartbeats 16000000
set_option maxRecDepth 100000
namespace Go.Proofs.YtojdpjpldokjmaaGreatDoor
namespace Pl
open Go.Deep
set_option linter.unusedVariables false
set_option linter.unusedSimpArgs false
def lastS:List UInt8 := [108,97,115,116]
def goneS:List UInt8 := [103,111,110,101]
def wIns:List UInt8 := [73,78,83,69,82,84,32,73,78,84,79,32,116,32,86,65,76,85,69,83,32,40,57,50,50,51,51,55,50,48,51,54,56,53,52,55,55,53,56,48,55,44,32,39,108,97,115,116,39,44,32,84,82,85,69,41]
def wUp1:List UInt8 := [85,80,68,65,84,69,32,116,32,83,69,84,32,98,32,61,32,39,103,111,110,101,39,44,32,97,32,61,32,116,46,97,32,43,32,49]
def wUp2:List UInt8 := [85,80,68,65,84,69,32,116,32,83,69,84,32,99,32,61,32,78,79,84,32,99,44,32,97,32,61,32,49,32,47,32,40,97,32,45,32,53,41]
def wDel:List UInt8 := [68,69,76,69,84,69,32,70,82,79,77,32,116,32,87,72,69,82,69,32,98,32,61,32,39,108,97,115,116,39]
def itS (name:List UInt8) (t:T):It := ⟨name,[],0,t,false⟩
theorem p_wIns:pParse wIns = some (st0 105 nT [itV (tLit 1 9223372036854775807 []),itV (tLit 2 0 lastS),itV (tLit 3 1 [])] .nil) := by kernel_rfl
theorem p_wUp1:pParse wUp1 = some (st0 117 nT [itS nB (tLit 2 0 goneS),itS nA (tTwo 6 (tName nT nA) (tLit 1 1 []))] .nil) := by kernel_rfl
theorem p_wUp2:pParse wUp2 = some (st0 117 nT [itS nC (tOne 3 (tName [] nC)),itS nA (tTwo 9 (tLit 1 1 []) (tTwo 7 (tName [] nA) (tLit 1 5 [])))] .nil) := by kernel_rfl
theorem p_wDel:pParse wDel = some (st0 100 nT [] (tTwo 11 (tName [] nB) (tLit 2 0 lastS))) := by kernel_rfl
def rowL:List V := [nV 9223372036854775807,tV lastS,tru true]
def LRow (r:List V):Prop := TRow r /\ r.getD 1 nul ≠ tV lastS
theorem rowT_l (v:Nat):LRow (rowT v) := ⟨rowT_t v,by
 show vB (v / 8 % 5) ≠ _
 unfold vB
 split <;> exact (fun h=>absurd (congrArg (fun v:V=>(v.kind,v.s)) h) (by decide))⟩
theorem row0_l:LRow row0 := ⟨row0_t,fun h=>absurd (congrArg (fun v:V=>(v.kind,v.s)) h) (by decide)⟩
theorem baseGo_l:∀ {cs:List Int} {i:Nat} {rt ru:List (List V)},(∀ r ∈ rt,LRow r) -> ∀ r ∈ (baseGo i cs rt ru).1,LRow r
 | [],i,rt,ru,h=>h
 | c :: cs,i,rt,ru,h=>by
   rw [baseGo]
   split
   · exact h
   · split
     · refine baseGo_l (fun r hr=>?_)
       rcases List.mem_append.1 hr with hr | hr
       · exact h r hr
       · simp at hr; subst hr; exact rowT_l _
     · exact baseGo_l h
theorem base_l (raw:List Int):∀ r ∈ (baseRows raw).1,LRow r := baseGo_l (fun r hr=>by simp at hr; subst hr; exact row0_l)
theorem baseGo_pre:∀ {cs:List Int} {i:Nat} {rt ru:List (List V)},∃ m,(baseGo i cs rt ru).1 = rt ++ m
 | [],i,rt,ru=>⟨[],by simp [baseGo]⟩
 | c :: cs,i,rt,ru=>by
   rw [baseGo]
   split
   · exact ⟨[],by simp⟩
   · split
     · obtain ⟨m,hm⟩ := baseGo_pre (cs := cs) (i := i + 1) (rt := rt ++ [rowT (pickN c 1099511627776)]) (ru := ru)
       exact ⟨[rowT (pickN c 1099511627776)] ++ m,by rw [hm]; simp⟩
     · exact baseGo_pre
theorem base_head (raw:List Int):∃ m,(baseRows raw).1 = row0 :: m := by
 obtain ⟨m,hm⟩ := baseGo_pre (cs := raw) (i := 0) (rt := [row0]) (ru := [])
 exact ⟨m,hm⟩
theorem w_ins {rt ru:List (List V)} (hl:rt.length <= 8):exec (bTab rt ru) wIns = (bTab (rt ++ [rowL]) ru,⟨[],1,0⟩) := by
 rw [exec_insert p_wIns rfl]
 unfold doInsert
 rw [show (st0 105 nT [itV (tLit 1 9223372036854775807 []),itV (tLit 2 0 lastS),itV (tLit 3 1 [])] .nil).table = nT from rfl,tab_t]
 simp only
 rw [if_neg (fun h=>h rfl),show tcRow _ ((tabD (bTab rt ru) 0).cols.map (·.2)) = none from rfl]
 simp only
 rw [show evAll [] [] _ = .ok rowL from rfl]
 simp only
 rw [if_neg (show ¬ (tabD (bTab rt ru) 0).rows.length = 25 from by show ¬ rt.length = 25; omega)]
 rfl
theorem updGo_pre {cols:List Col} {c:T} {ks:List Nat} {ts:List T} {r:List V} {post:List (List V)} {e:Nat} (hr:ev cols r c = .ok (tru true)) (hs:setRow cols r r ks ts = .error e):∀ {pre:List (List V)},(∀ x ∈ pre,∃ y,ev cols x c = .ok (tru true) /\ setRow cols x x ks ts = .ok y) -> updGo cols c ks ts (pre ++ r :: post) = .error e
 | [],_=>by
   rw [List.nil_append,updGo,hr]
   simp only
   rw [if_pos trivial,hs]
 | x :: pre,h=>by
   obtain ⟨y,h1,h2⟩ := h x (by simp)
   rw [List.cons_append,updGo,h1]
   simp only
   rw [if_pos trivial,h2,updGo_pre hr hs (fun z hz=>h z (by simp [hz]))]
theorem upd_err {db:DB} {s:St} {i e:Nat} {ks:List Nat} (h:tabAt db s.table = some i) (h1:setsGo (tabD db i) [] s.items = .ok ks) (h2:tcAs (scope (tabD db i).name (tabD db i)) (cond s.whr) 3 = none) (h3:updGo (scope (tabD db i).name (tabD db i)) (cond s.whr) ks (s.items.map (·.tree)) (tabD db i).rows = .error e):doUpdate db s = (db,no e) := by unfold doUpdate; rw [h]; simp only [h1,h2,h3]
theorem upd_ok {db:DB} {s:St} {i:Nat} {ks:List Nat} {z:List (List V) × Nat} (h:tabAt db s.table = some i) (h1:setsGo (tabD db i) [] s.items = .ok ks) (h2:tcAs (scope (tabD db i).name (tabD db i)) (cond s.whr) 3 = none) (h3:updGo (scope (tabD db i).name (tabD db i)) (cond s.whr) ks (s.items.map (·.tree)) (tabD db i).rows = .ok z):doUpdate db s = (setRows db i z.1,⟨[],z.2,0⟩) := by unfold doUpdate; rw [h]; simp only [h1,h2,h3]
theorem w_up1 {rt ru:List (List V)} (hr:∀ r ∈ rt,LRow r):exec (bTab (rt ++ [rowL]) ru) wUp1 = (bTab (rt ++ [rowL]) ru,no 4) := by
 rw [exec_update p_wUp1 rfl]
 have h:updGo tCols (cond .nil) [1,0] [tLit 2 0 goneS,tTwo 6 (tName nT nA) (tLit 1 1 [])] (rt ++ rowL :: []) = .error 4 := updGo_pre rfl (by kernel_rfl) (fun x hx=>by
   obtain ⟨v,hv,_⟩ := (num_two (op := 6) (.inl rfl) (B := 5) (C := 25) (by decide) (by decide) (by decide) (leafN_ok 6) (lit_num 1 (by decide) (by decide))).ev x (hr x hx).1
   refine ⟨(x.set 1 (tV goneS)).set 0 v,rfl,?_⟩
   rw [setRow,ev_lit]
   simp only
   rw [setRow,show ev tCols x (tTwo 6 (tName nT nA) (tLit 1 1 [])) = .ok v from hv]
   rfl)
 exact upd_err (i := 0) (ks := [1,0]) (tab_t _ _) rfl rfl h
theorem w_up2 {rt ru m:List (List V)} (hr:rt = row0 :: m):exec (bTab (rt ++ [rowL]) ru) wUp2 = (bTab (rt ++ [rowL]) ru,no 5) := by
 rw [exec_update p_wUp2 rfl]
 have h:updGo tCols (cond .nil) [2,0] [tOne 3 (tName [] nC),tTwo 9 (tLit 1 1 []) (tTwo 7 (tName [] nA) (tLit 1 5 []))] (rt ++ [rowL]) = .error 5 := by
   subst hr
   exact updGo_pre (pre := []) (r := row0) rfl (by kernel_rfl) (fun x hx=>by simp at hx)
 exact upd_err (i := 0) (ks := [2,0]) (tab_t _ _) rfl rfl h
theorem bytes_zero:∀ (a b:List UInt8),Lib.compareBytes a b = 0 -> a = b
 | [],[],_=>rfl
 | [],_ :: _,h=>by simp [Lib.compareBytes] at h
 | _ :: _,[],h=>by simp [Lib.compareBytes] at h
 | x :: a,y :: b,h=>by
   rw [Lib.compareBytes] at h
   split at h
   · cases h
   · split at h
     · cases h
     · have := bytes_zero a b h
       rename_i h1 h2
       have hxy:x = y := UInt8.le_antisymm (UInt8.not_lt.1 h2) (UInt8.not_lt.1 h1)
       rw [hxy,this]
def tLast:T := tTwo 11 (tName [] nB) (tLit 2 0 lastS)
theorem last_no {r:List V} (h:LRow r):∃ v,ev tCols r tLast = .ok v /\ ¬ v = tru true := by
 obtain ⟨⟨a,b,c,rfl,_,hb,_⟩,hn⟩ := h
 have e:ev tCols [a,b,c] tLast = ap2 11 b ⟨2,0,lastS⟩ := ev_two (by omega) (by omega) rfl rfl
 rcases hb with rfl | ⟨s,rfl⟩
 · exact ⟨nul,e,fun h=>by cases h⟩
 · refine ⟨_,e,?_⟩
   have hs:s ≠ lastS := fun h=>hn (by subst h; rfl)
   have hz:Lib.compareBytes s lastS ≠ 0 := fun h=>hs (bytes_zero _ _ h)
   show ¬ tru (Lib.compareBytes s lastS == 0) = tru true
   rw [beq_false_of_ne hz]
   exact fun h=>absurd (congrArg V.n h) (by decide)
theorem last_yes:ev tCols rowL tLast = .ok (tru true) := by kernel_rfl
theorem sift_last:∀ {rt:List (List V)},(∀ r ∈ rt,LRow r) -> sift tCols tLast (rt ++ [rowL]) = .ok ([rowL],rt)
 | [],_=>by
   rw [List.nil_append,sift,last_yes]
   simp only
   rw [sift]
   simp only
   rw [if_pos trivial]
 | r :: rs,hr=>by
   obtain ⟨v,h1,h2⟩ := last_no (hr r (by simp))
   rw [List.cons_append,sift,h1]
   simp only
   rw [sift_last (fun x hx=>hr x (by simp [hx]))]
   simp only
   rw [if_neg h2]
theorem w_del {rt ru:List (List V)} (hr:∀ r ∈ rt,LRow r):exec (bTab (rt ++ [rowL]) ru) wDel = (bTab rt ru,⟨[],1,0⟩) := by
 rw [exec_delete p_wDel rfl]
 unfold doDelete
 rw [show (st0 100 nT [] (tTwo 11 (tName [] nB) (tLit 2 0 lastS))).table = nT from rfl,tab_t]
 simp only
 rw [show tcAs (scope (tabD (bTab (rt ++ [rowL]) ru) 0).name (tabD (bTab (rt ++ [rowL]) ru) 0)) (cond (st0 100 nT [] (tTwo 11 (tName [] nB) (tLit 2 0 lastS))).whr) 3 = none from rfl]
 simp only
 rw [show sift (scope (tabD (bTab (rt ++ [rowL]) ru) 0).name (tabD (bTab (rt ++ [rowL]) ru) 0)) (cond (st0 100 nT [] (tTwo 11 (tName [] nB) (tLit 2 0 lastS))).whr) (tabD (bTab (rt ++ [rowL]) ru) 0).rows = .ok ([rowL],rt) from sift_last hr]
 rfl
end Pl
namespace Pl
open Go.Deep
set_option linter.unusedVariables false
set_option linter.unusedSimpArgs false
def wC (cnd:List Int):Pc := condN cnd 1 0
theorem wC_sg (cnd:List Int):SgP 7 (wC cnd) := condN_sg cnd 1 0
theorem wC_len (cnd:List Int):(wC cnd).x.length <= 70 := (condN_len cnd 1 0 (by omega)).1
theorem wC_sz (cnd:List Int):sz (wC cnd).t <= 25 := (condN_len cnd 1 0 (by omega)).2
theorem wC_ok (cnd:List Int):(wC cnd).ok := (wC_sg cnd).ok (by omega)
theorem wC_okT (cnd:List Int):okT (wC cnd).t := ⟨(wC_sg cnd).wf.1,(wC_sg cnd).wf.2,by have := wC_sz cnd; omega⟩
theorem wC_bool (cnd:List Int):BoolOk (wC cnd).t := condN_ok cnd 1 0
theorem wC_7 (cnd:List Int):(hd (wC cnd).ts).k = 7 := by
 unfold wC
 rw [condN]
 split
 · rfl
 · rfl
 · rfl
 · rfl
 · exact cmpC_7 _ _ _
 · exact cmpC_7 _ _ _
def xTold2 (x:List UInt8):List UInt8 := [83,69,76,69,67,84,32] ++ (x ++ [44,32,116,46,97,44,32,98,44,32,99,32,70,82,79,77,32,116])
def toldPs2 (p:Pc):List Pc := [p,pcDot nT nA,pcName nB,pcName nC]
theorem toldPs2_ok {p:Pc} (h:p.ok):∀ q ∈ toldPs2 p,q.ok := by
 intro q hq
 simp [toldPs2] at hq
 rcases hq with rfl | rfl | rfl | rfl
 · exact h
 · exact (pcDot_sg nT_ok nA_ok).ok (by omega)
 · exact (pcName_sg nB_ok).ok (by omega)
 · exact (pcName_sg nC_ok).ok (by omega)
theorem toks_told2 {p:Pc} (h:p.ok):toks (xTold2 p.x) = kt 30 :: (joinT ((toldPs2 p).map (·.ts)) ++ [kt 26,tokT]) := by
 have e:xTold2 p.x = [83,69,76,69,67,84] ++ 32 :: (sepJoin [44,32] ((toldPs2 p).map (·.x)) ++ 32 :: ([70,82,79,77] ++ 32 :: nT)) := by
   simp [xTold2,toldPs2,sepJoin,pcDot,pcName,nT,nA,nB,nC]
 rw [e,cl_select _ sp,toks_space,toks_join (toldPs2_ok h) sp,toks_space,cl_from _ sp,toks_space]
 have:toks nT = [tokT] := by
   have := nT_ok.cl [] sep_nil
   simpa [toks_nil,tokT] using this
 rw [this]
 simp
theorem told2_parse {p:Pc} (h:p.ok) (hd7:(hd p.ts).k = 7) (hl:p.x.length <= 500):pParse (xTold2 p.x) = some (selSt false ((toldPs2 p).map (fun q=>itV q.t)) .nil) := by
 unfold pParse
 rw [if_neg (by simp [xTold2]; omega),toks_told2 h]
 have hj:(hd (joinT ((toldPs2 p).map (·.ts)) ++ [kt 26,tokT])).k = 7 := by
   cases hp:p.ts with
   | nil=>exact absurd hp h.2.2
   | cons a r =>
     rw [hp] at hd7
     simp [toldPs2,joinT,hp]
     exact hd7
 have hlist:listed iValue (joinT ((toldPs2 p).map (·.ts)) ++ [kt 26,tokT]) = some ((toldPs2 p).map (fun q=>itV q.t),[kt 26,tokT]) := by
   unfold listed
   rw [more_join' (toldPs2_ok h) (by simp [toldPs2]) rfl (by decide) (by have := joinT_len (toldPs2_ok h); simp; omega)]
   rfl
 generalize joinT ((toldPs2 p).map (·.ts)) ++ [kt 26,tokT] = J at *
 show pEnd (pQuery J) = _
 have hd0:pDis J = J := by unfold pDis; rw [if_neg (by rw [hj]; decide)]
 have ht:pTold (pDis J) = some ((false,(toldPs2 p).map (fun q=>itV q.t)),[kt 26,tokT]) := by
   rw [hd0]
   unfold pTold
   rw [if_neg (by rw [hj]; decide),hlist]
 rw [query_some ht]
 have:((hd J).k == 31) = false := by rw [hj]; rfl
 rw [this]
 rfl
theorem told2_exec {rt ru:List (List V)} (hr:∀ r ∈ rt,TRow r) {p:Pc} (h:p.ok) (hd7:(hd p.ts).k = 7) (hl:p.x.length <= 500) (hb:BoolOk p.t):exec (bTab rt ru) (xTold2 p.x) = (bTab rt ru,⟨rt.map (fun r=>evV p.t r :: r),0,0⟩) := by
 have htc:tcAll tCols (valuesOf (selSt false ((toldPs2 p).map (fun q=>itV q.t)) .nil) tCols) = none := by
   show tcAll tCols [p.t,tName nT nA,tName [] nB,tName [] nC] = none
   rcases hb.tc with h | h <;> simp [tcAll,h] <;> rfl
 have hf:∀ r,TRow r -> evAll tCols r (valuesOf (selSt false ((toldPs2 p).map (fun q=>itV q.t)) .nil) tCols) = .ok ((fun r=>evV p.t r :: r) r) := by
   intro r hr
   show evAll tCols r [p.t,tName nT nA,tName [] nB,tName [] nC] = _
   have h1 := (evV_ok hb hr).1
   obtain ⟨a,b,c,rfl,_⟩ := hr
   rw [evAll,h1]
   rfl
 have h := sel_done (ru := ru) hr (wh := .nil) true_ok htc hf (told2_parse h hd7 hl)
 have e:rt.filter (isYes (cond .nil)) = rt := List.filter_eq_self.2 (fun r _=>rfl)
 rw [h,e]
def xUpd (k:Nat) (x:List UInt8):List UInt8 := [85,80,68,65,84,69,32,116,32,83,69,84,32,97,32,61,32] ++ (dec k ++ ([44,32,99,32,61,32,116,46,97,32,61,32] ++ (dec k ++ ([32,87,72,69,82,69,32] ++ x))))
theorem cl_update:Cl [85,80,68,65,84,69] [kt 28] := cl_kw _ 28 rfl rfl (by kernel_rfl) (by decide)
theorem cl_set:Cl [83,69,84] [kt 29] := cl_kw _ 29 rfl rfl (by kernel_rfl) (by decide)
theorem toks_eq (z:List UInt8):toks (61 :: z) = kt 12 :: toks z := toks_sign 61 z 12 rfl (by decide) (by decide) (by decide)
def tk (n:Nat):Tok := ⟨2,n,[]⟩
def tn (s:List UInt8):Tok := ⟨1,0,s⟩
def updTs (k:Nat) (ts:List Tok):List Tok := tn nT :: kt 29 :: tn nA :: kt 12 :: tk k :: kt 9 :: tn nC :: kt 12 :: tn nT :: kt 10 :: tn nA :: kt 12 :: tk k :: kt 27 :: ts
theorem toks_upd (k:Nat) (hk:k < 4) (z:List UInt8):toks (xUpd k z) = kt 28 :: updTs k (toks z) := by
 have hn:Cl (dec k) [tk k] := Cl.num (by omega)
 show toks ([85,80,68,65,84,69] ++ 32 :: (nT ++ 32 :: ([83,69,84] ++ 32 :: (nA ++ 32 :: 61 :: 32 :: (dec k ++ 44 :: 32 :: (nC ++ 32 :: 61 :: 32 :: ((pcDot nT nA).x ++ 32 :: 61 :: 32 :: (dec k ++ 32 :: ([87,72,69,82,69] ++ 32 :: z))))))))) = _
 rw [cl_update _ sp,toks_space,nT_ok.cl _ sp,toks_space,cl_set _ sp,toks_space,nA_ok.cl _ sp,toks_space,toks_eq,toks_space,hn _ (sep_cons (by decide)),toks_comma,toks_space,nC_ok.cl _ sp,toks_space,toks_eq,toks_space,(pcDot_sg nT_ok nA_ok).cl _ sp,toks_space,toks_eq,toks_space,hn _ sp,toks_space,cl_where _ sp,toks_space]
 rfl
def updSt (k:Nat) (t:T):St := st0 117 nT [itS nA (tLit 1 k []),itS nC (tTwo 11 (tName nT nA) (tLit 1 k []))] t
theorem upd_parse {k:Nat} (hk:k < 4) {x:List UInt8} {ts:List Tok} {t:T} (hc:Cl x ts) (hv:Vl 20 ts t) (hl:x.length <= 500):pParse (xUpd k x) = some (updSt k t) := by
 unfold pParse
 have hd4:(dec k).length <= 20 := (dec_ok (n := k) (by omega)).2.2.2
 rw [if_neg (by simp [xUpd]; omega),toks_upd k hk]
 have e:toks x = ts := by
   have := hc [] sep_nil
   simpa [toks_nil] using this
 rw [e]
 have hw:pVal 20 ts = some (t,[]) := by
   have := hv 20 [] (Nat.le_refl _) rfl
   rw [List.append_nil] at this
   exact this
 show pEnd (pUpdate (updTs k ts)) = _
 have hls:listed iSet (updTs k ts).tail.tail = some ([itS nA (tLit 1 k []),itS nC (tTwo 11 (tName nT nA) (tLit 1 k []))],kt 27 :: ts) := by
   rfl
 unfold pUpdate
 rw [if_pos (show (hd (updTs k ts)).k = 1 from rfl),if_pos (show (hd (updTs k ts).tail).k = 29 from rfl),hls]
 simp only
 have hp:pWhere (kt 27 :: ts) = some (t,[]) := by
   unfold pWhere
   rw [if_pos (show (hd (kt 27 :: ts)).k = 27 from rfl)]
   exact hw
 rw [hp]
 rfl
def eqK (k:Nat) (a:V):V := if a.miss = true then nul else tru (a.n == (k:Int))
def updR (k:Nat) (r:List V):List V := [nV k,r.getD 1 nul,eqK k (r.getD 0 nul)]
def newR (k:Nat) (t:T) (r:List V):List V := if isYes t r = true then updR k r else r
theorem ev_eqk {k:Nat} {r:List V} (h:TRow r):ev tCols r (tTwo 11 (tName nT nA) (tLit 1 k [])) = .ok (eqK k (r.getD 0 nul)) := by
 obtain ⟨a,b,c,rfl,ha,_⟩ := h
 have e:ev tCols [a,b,c] (tTwo 11 (tName nT nA) (tLit 1 k [])) = ap2 11 a (nV k) := ev_two (by omega) (by omega) rfl rfl
 rw [e]
 rcases ha with rfl | ⟨n,rfl,_⟩
 · rfl
 · show Except.ok (tru (Lib.compareInt n k == 0)) = Except.ok (tru (n == (k:Int)))
   congr 2
   unfold Lib.compareInt
   rw [Bool.eq_iff_iff,beq_iff_eq,beq_iff_eq]
   split
   · omega
   · split <;> omega
theorem set_upd {k:Nat} {r:List V} (h:TRow r):setRow tCols r r [0,2] [tLit 1 k [],tTwo 11 (tName nT nA) (tLit 1 k [])] = .ok (updR k r) := by
 rw [setRow,ev_lit]
 simp only
 rw [setRow,ev_eqk h]
 simp only
 rw [setRow]
 · obtain ⟨a,b,c,rfl,_⟩ := h
   rfl
 · simp
theorem upd_go {k:Nat} {t:T} (h:BoolOk t):∀ {rt:List (List V)},(∀ r ∈ rt,TRow r) -> updGo tCols t [0,2] [tLit 1 k [],tTwo 11 (tName nT nA) (tLit 1 k [])] rt = .ok (rt.map (newR k t),(rt.filter (isYes t)).length)
 | [],_=>rfl
 | r :: rs,hr=>by
   have h1 := hr r (by simp)
   have ih := upd_go (k := k) h (rt := rs) (fun x hx=>hr x (by simp [hx]))
   rw [updGo,(evV_ok h h1).1]
   simp only
   by_cases hy:evV t r = tru true
   · have hi:isYes t r = true := V.same_yes hy
     rw [if_pos hy,set_upd h1,ih]
     simp [newR,hi]
   · have hi:isYes t r = false := V.same_no hy
     rw [if_neg hy,ih]
     simp [newR,hi]
theorem w_upd {rt ru:List (List V)} (hr:∀ r ∈ rt,TRow r) {k:Nat} (hk:k < 4) (cnd:List Int):exec (bTab rt ru) (xUpd k (wC cnd).x) = (bTab (rt.map (newR k (wC cnd).t)) ru,⟨[],((rt.filter (isYes (wC cnd).t)).length:Nat),0⟩) := by
 rw [exec_update (upd_parse hk (wC_ok cnd).1 (wC_ok cnd).2.1 (by have := wC_len cnd; omega)) rfl]
 have hg:updGo tCols (cond (updSt k (wC cnd).t).whr) [0,2] [tLit 1 k [],tTwo 11 (tName nT nA) (tLit 1 k [])] rt = .ok (rt.map (newR k (wC cnd).t),(rt.filter (isYes (wC cnd).t)).length) := by
   rw [show (updSt k (wC cnd).t).whr = (wC cnd).t from rfl,cond_id (wC_okT cnd)]
   exact upd_go (wC_bool cnd) hr
 have h2:tcAs tCols (cond (updSt k (wC cnd).t).whr) 3 = none := by
   rw [show (updSt k (wC cnd).t).whr = (wC cnd).t from rfl,cond_id (wC_okT cnd)]
   exact tcAs_bool (wC_bool cnd)
 exact upd_ok (db := bTab rt ru) (s := updSt k (wC cnd).t) (i := 0) (ks := [0,2]) (tab_t _ _) rfl h2 hg
theorem w_told {rt ru:List (List V)} (hr:∀ r ∈ rt,TRow r) (cnd:List Int):exec (bTab rt ru) (xTold2 (wC cnd).x) = (bTab rt ru,⟨rt.map (fun r=>evV (wC cnd).t r :: r),0,0⟩) := told2_exec hr (wC_ok cnd) (wC_7 cnd) (by have := wC_len cnd; omega) (wC_bool cnd)
theorem kw_told (cnd:List Int):∃ s,pParse (xTold2 (wC cnd).x) = some s /\ s.kind = 115 /\ s.distinct = false /\ s.sources.length = 1 := ⟨_,told2_parse (wC_ok cnd) (wC_7 cnd) (by have := wC_len cnd; omega),rfl,rfl,rfl⟩
theorem eqK_bool (k:Nat) (a:V):BoolV (eqK k a) := by
 unfold eqK
 split
 · exact .inl rfl
 · exact .inr ⟨_,rfl⟩
theorem newR_t {k:Nat} (hk:k < 4) {t:T} {r:List V} (h:TRow r):TRow (newR k t r) := by
 unfold newR
 split
 · obtain ⟨a,b,c,rfl,_,hb,_⟩ := h
   exact ⟨nV k,b,eqK k a,rfl,.inr ⟨k,rfl,by omega,by omega⟩,hb,eqK_bool _ _⟩
 · exact h
theorem w_now {rt ru:List (List V)} (hr:∀ r ∈ rt,TRow r) {k:Nat} (hk:k < 4) (t:T):exec (bTab (rt.map (newR k t)) ru) xAll = (bTab (rt.map (newR k t)) ru,⟨rt.map (newR k t),0,0⟩) := all_exec (fun r h=>by
 obtain ⟨x,hx,rfl⟩ := List.mem_map.1 h
 exact newR_t hk (hr x hx))
end Pl
end Go.Proofs.YtojdpjpldokjmaaGreatDoor
