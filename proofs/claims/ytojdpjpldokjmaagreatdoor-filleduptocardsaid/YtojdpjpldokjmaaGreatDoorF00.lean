/- Plain functions on bytes and tokens: nothing of the program in it. -/
import Derived.Below
set_option maxHeartbeats 60000000
set_option maxRecDepth 100000
namespace Go.Proofs.YtojdpjpldokjmaaGreatDoor
namespace Pl
def isLet (c:UInt8):Bool:=(decide (97<=c.toNat) && decide (c.toNat<=122)) || (decide (65<=c.toNat) && decide (c.toNat<=90)) || c.toNat == 95
def isDig (c:UInt8):Bool:=decide (48<=c.toNat) && decide (c.toNat<=57)
def isLD (c:UInt8):Bool:=isLet c || isDig c
def isBlank (c:UInt8):Bool:=c.toNat == 32 || c.toNat == 9 || c.toNat == 10
theorem isLet_t {c:UInt8}(h:(97<=c.toNat/\c.toNat<=122)\/(65<=c.toNat/\c.toNat<=90)\/c.toNat=95):isLet c=true:=by
 unfold isLet;simp;omega
theorem isDig_t {c:UInt8}(h:48<=c.toNat/\c.toNat<=57):isDig c=true:=by
 unfold isDig;simp;omega
theorem isLet_iff (c:UInt8):isLet c=true ↔ ((97<=c.toNat/\c.toNat<=122)\/(65<=c.toNat/\c.toNat<=90)\/c.toNat=95) :=
 ⟨fun h=>by unfold isLet at h;simp at h;omega,isLet_t⟩
theorem isDig_iff (c:UInt8):isDig c=true ↔ (48<=c.toNat/\c.toNat<=57) :=
 ⟨fun h=>by unfold isDig at h;simp at h;omega,isDig_t⟩
end Pl
namespace Pl
structure Tok where
 k:Nat
 n:Int
 s:List UInt8
def bad:Tok:=⟨99,0,[]⟩
def fin:Tok:=⟨0,0,[]⟩
def spells:List (List UInt8):=[[],[],[],[],
 [60,62],[60,61],[62,61],[40],[41],[44],[46],[59],[61],[60],[62],[43],[45],[42],[47],[37],
 [67,82,69,65,84,69],[84,65,66,76,69],[73,78,83,69,82,84],[73,78,84,79],[86,65,76,85,69,83],[68,69,76,69,84,69],[70,82,79,77],[87,72,69,82,69],
 [85,80,68,65,84,69],[83,69,84],[83,69,76,69,67,84],[68,73,83,84,73,78,67,84],[65,83],[76,69,70,84],[74,79,73,78],[79,78],[79,82,68,69,82],[66,89],
 [68,69,83,67],[76,73,77,73,84],[79,70,70,83,69,84],[65,78,68],[79,82],[78,79,84],[73,83],[78,85,76,76],[84,82,85,69],[70,65,76,83,69],[73,78,84],
 [84,69,88,84],[66,79,79,76]]
def spell (k:Nat):List UInt8:=spells.getD k []
def up (c:UInt8):UInt8:=if 97<=c.toNat/\c.toNat<=122 then UInt8.ofNat (c.toNat - 32) else c
def kwFrom (g:List UInt8)(i:Nat):Nat->Option Nat
 | 0=>none
 | n+1=>if spell (20+i)=g then some i else kwFrom g (i+1) n
def kwOf (g:List UInt8):Option Nat:=kwFrom g 0 31
theorem kwFrom_some {g:List UInt8}:∀ {n i j:Nat},kwFrom g i n=some j->i<=j/\j<i+n/\spell (20+j)=g
 | 0,_,_,h=>by simp [kwFrom] at h
 | n+1,i,j,h=>by
  unfold kwFrom at h
  split at h
  ·rename_i hs;simp at h;subst h;exact ⟨Nat.le_refl _,by omega,hs⟩
  ·have:=kwFrom_some h;exact ⟨by omega,by omega,this.2.2⟩
theorem kwFrom_none {g:List UInt8}:∀ {n i:Nat},(∀ j,i<=j->j<i+n->spell (20+j)≠g)->kwFrom g i n=none
 | 0,_,_=>rfl
 | n+1,i,h=>by
  unfold kwFrom
  rw [if_neg (h i (Nat.le_refl _) (by omega))]
  exact kwFrom_none (fun j hj hl=>h j (by omega) (by omega))
theorem kwFrom_hit {g:List UInt8}:∀ {n i k:Nat},i<=k->k<i+n->(∀ j,i<=j->j<k->spell (20+j)≠g)->spell (20+k)=g->kwFrom g i n=some k
 | 0,_,_,h1,h2,_,_=>by omega
 | n+1,i,k,h1,h2,hno,hs=>by
  unfold kwFrom
  by_cases e:i=k
  ·subst e;rw [if_pos hs]
  ·rw [if_neg (hno i (Nat.le_refl _) (by omega))]
   exact kwFrom_hit (by omega) (by omega) (fun j hj hl=>hno j (by omega) hl) hs
theorem spell_len (k:Nat):(spell k).length<=8:=by
 by_cases h:k<51
 ·have:∀ i:Fin 51,(spell i.1).length<=8:=by decide
  exact this ⟨k,h⟩
 ·unfold spell;rw [List.getD_eq_getElem?_getD,List.getElem?_eq_none (by simp [spells];omega)];simp
theorem spell_ne (k:Nat)(h4:4<=k)(h:k<51):spell k≠[]:=by
 have:∀ i:Fin 51,4<=i.1->spell i.1≠[]:=by decide
 exact this ⟨k,h⟩ h4
theorem kwOf_long {g:List UInt8}(h:8<g.length):kwOf g=none :=
 kwFrom_none (fun j _ _ e=>by have:=spell_len (20+j);rw [e] at this;omega)
def wordTok (w:List UInt8):Tok:=match kwOf (w.map up) with
 | some i=>⟨20+i,0,[]⟩
 | none=>if 10<w.length then bad else ⟨1,0,w⟩
def worth:Int->List UInt8->Int
 | n,[]=>n
 | n,c :: r=>worth (10*n+(c.toNat - 48)) r
def numTok (l:List UInt8):Tok:=if worth 0 l > 9223372036854775807 then bad else ⟨2,worth 0 l,[]⟩
theorem worth_ge:∀ (ds:List UInt8)(n:Int),0<=n->(∀ c,c ∈ ds->isDig c=true)->n<=worth n ds
 | [],n,_,_=>Int.le_refl n
 | c :: r,n,hn,h=>by
  have hc:=(isDig_iff c).1 (h c (by simp))
  have:=worth_ge r (10*n+(c.toNat - 48)) (by omega) (fun d hd=>h d (by simp [hd]))
  show n<=worth (10*n+(c.toNat - 48)) r
  omega
theorem mem_tw {p:UInt8->Bool}:∀ {l:List UInt8}{c:UInt8},c ∈ l.takeWhile p->p c=true
 | d :: r,c,h=>by
  rw [List.takeWhile_cons] at h
  split at h
  ·rename_i hp
   rcases List.mem_cons.1 h with rfl|h
   ·exact hp
   ·exact mem_tw h
  ·simp at h
def from_ (s:ByteArray)(k:Nat):List UInt8:=s.data.toList.drop k
theorem from_lt (s:ByteArray)(k:Nat)(h:k<s.size):from_ s k=s[k] :: from_ s (k+1):=by
 unfold from_
 rw [List.drop_eq_getElem_cons (by simpa using h)];rfl
theorem from_ge (s:ByteArray)(k:Nat)(h:s.size<=k):from_ s k=[]:=by
 unfold from_
 exact List.drop_eq_nil_of_le (by simpa using h)
theorem from_zero (s:ByteArray):from_ s 0=s.data.toList:=rfl
def numAt (l r:List UInt8)(n:Int)(b:Bool):Prop :=
 r.dropWhile isDig=l.dropWhile isDig/\0<=n/\n<=9223372036854775807/\(if b=true then 9223372036854775807<worth 0 (l.takeWhile isDig) else worth n (r.takeWhile isDig)=worth 0 (l.takeWhile isDig))
theorem numAt_start (l:List UInt8):numAt l l 0 false:=⟨rfl,by omega,by omega,rfl⟩
theorem numAt_more {l r:List UInt8}{n:Int}{b:Bool}{c:UInt8}(h:numAt l (c :: r) n b)(hc:isDig c=true)(hf:10*n+(c.toNat - 48)<=9223372036854775807):numAt l r (10*n+(c.toNat - 48)) b:=by
 obtain ⟨h1,h2,h3,h4⟩:=h
 have hd:=(isDig_iff c).1 hc
 rw [List.dropWhile_cons_of_pos hc] at h1
 rw [List.takeWhile_cons_of_pos hc] at h4
 exact ⟨h1,by omega,hf,h4⟩
theorem numAt_great {l r:List UInt8}{n:Int}{b:Bool}{c:UInt8}(h:numAt l (c :: r) n b)(hc:isDig c=true)(hf:9223372036854775807<10*n+(c.toNat - 48)):numAt l r (c.toNat - 48) true:=by
 obtain ⟨h1,h2,h3,h4⟩:=h
 have hd:=(isDig_iff c).1 hc
 rw [List.dropWhile_cons_of_pos hc] at h1
 rw [List.takeWhile_cons_of_pos hc] at h4
 refine ⟨h1,by omega,by omega,?_⟩
 rw [if_pos rfl]
 cases b with
 | true=>exact h4
 | false =>
  have h5:worth (10*n+(c.toNat - 48)) (r.takeWhile isDig)=worth 0 (l.takeWhile isDig):=h4
  have:=worth_ge (r.takeWhile isDig) (10*n+(c.toNat - 48)) (by omega) (fun d hd=>mem_tw hd)
  omega
theorem numAt_end {l r:List UInt8}{n:Int}{b:Bool}(h:numAt l r n b)(hr:r=[]\/∃ c r',r=c :: r'/\isDig c=false) :
 r=l.dropWhile isDig/\numTok (l.takeWhile isDig)=if b=true then bad else ⟨2,n,[]⟩:=by
 obtain ⟨h1,h2,h3,h4⟩:=h
 have ht:r.takeWhile isDig=[]/\r.dropWhile isDig=r:=by
  rcases hr with rfl|⟨c,r',rfl,hc⟩
  ·exact ⟨rfl,rfl⟩
  ·exact ⟨List.takeWhile_cons_of_neg (by simp [hc]),List.dropWhile_cons_of_neg (by simp [hc])⟩
 rw [ht.2] at h1
 rw [ht.1] at h4
 refine ⟨h1,?_⟩
 unfold numTok
 cases b with
 | true=>simp only [if_true] at h4 ⊢;rw [if_pos h4]
 | false =>
  have h5:n=worth 0 (l.takeWhile isDig):=h4
  rw [<- h5,if_neg (by omega)]
  rfl
def litTok:List UInt8->List UInt8->Tok × List UInt8
 | _,[]=>(bad,[])
 | acc,[c]=>if c.toNat=39 then (if 40<acc.length then bad else ⟨3,0,acc⟩,[]) else (bad,[])
 | acc,c :: d :: r =>
  if c.toNat=39 then
   if d.toNat=39 then litTok (acc++[c]) r else (if 40<acc.length then bad else ⟨3,0,acc⟩,d :: r)
  else litTok (acc++[c]) (d :: r)
def oneSign (c:Nat):Nat :=
 if c=40 then 7 else if c=41 then 8 else if c=44 then 9 else if c=46 then 10 else if c=59 then 11 else if c=61 then 12 else if c=60 then 13 else
 if c=62 then 14 else if c=43 then 15 else if c=45 then 16 else if c=42 then 17 else if c=47 then 18 else if c=37 then 19 else 99
def twoSign (c d:Nat):Nat :=
 if c=60/\d=62 then 4 else if c=60/\d=61 then 5 else if c=62/\d=61 then 6 else 99
def signTok:List UInt8->Tok × List UInt8
 | []=>(fin,[])
 | [c]=>(⟨oneSign c.toNat,0,[]⟩,[])
 | c :: d :: r=>if twoSign c.toNat d.toNat=99 then (⟨oneSign c.toNat,0,[]⟩,d :: r) else (⟨twoSign c.toNat d.toNat,0,[]⟩,r)
def headTok (l:List UInt8):Tok × List UInt8:=match l with
 | []=>(fin,[])
 | c :: r =>
  if isLet c=true then (wordTok (l.takeWhile isLD),l.dropWhile isLD)
  else if isDig c=true then (numTok (l.takeWhile isDig),l.dropWhile isDig)
  else if c.toNat=39 then litTok [] r
  else signTok l
def look (l:List UInt8):Tok × List UInt8:=headTok (l.dropWhile isBlank)
def refK (k:Nat):Int:=if k=0 then 101 else if k=1 then 119 else if k=2 then 110 else if k=3 then 116 else if k<20 then 115 else if k<51 then 107 else 120
def refS (t:Tok):List UInt8:=if t.k=1\/t.k=3 then t.s else spell t.k
def refN (t:Tok):Int:=if t.k=2 then t.n else 0
def refB (t:Tok):ByteArray:=⟨(refS t).toArray⟩
def refTok (t:Tok):Value:=.agg #[.int .u8 (refK t.k),.string (refB t),.int .i64 (refN t)]
theorem refTok_eq (t:Tok):refTok t=.agg #[.int .u8 (refK t.k),.string (refB t),.int .i64 (refN t)]:=rfl
end Pl
namespace Pl
theorem dw_len (p:UInt8->Bool):∀ l:List UInt8,(l.dropWhile p).length<=l.length
 | []=>by simp
 | c :: r=>by
  rw [List.dropWhile_cons]
  split
  ·have:=dw_len p r;simp;omega
  ·simp
theorem litTok_len:∀ (acc l:List UInt8),(litTok acc l).2.length<=l.length
 | _,[]=>by simp [litTok]
 | acc,[c]=>by unfold litTok;split <;> simp
 | acc,c :: d :: r=>by
  unfold litTok
  split
  ·split
   ·have:=litTok_len (acc++[c]) r;simp;omega
   ·simp
  ·have:=litTok_len (acc++[c]) (d :: r);simp at this ⊢;omega
theorem signTok_len:∀ (l:List UInt8),l≠[]->(signTok l).2.length<l.length
 | [],h=>absurd rfl h
 | [c],_=>by simp [signTok]
 | c :: d :: r,_=>by simp only [signTok];split <;> simp <;> omega
theorem isLD_of_let {c:UInt8}(h:isLet c=true):isLD c=true:=by unfold isLD;simp [h]
theorem headTok_len:∀ (l:List UInt8),l≠[]->(headTok l).2.length<l.length
 | [],h=>absurd rfl h
 | c :: r,_=>by
  unfold headTok
  simp only
  split
  ·rename_i h
   rw [List.dropWhile_cons_of_pos (isLD_of_let h)]
   have:=dw_len isLD r;simp;omega
  ·split
   ·rename_i h
    rw [List.dropWhile_cons_of_pos h]
    have:=dw_len isDig r;simp;omega
   ·split
    ·have:=litTok_len [] r;simp;omega
    ·exact signTok_len _ (by simp)
theorem look_len (l:List UInt8)(h:(look l).1.k≠0):(look l).2.length<l.length:=by
 unfold look at *
 have h1:=dw_len isBlank l
 by_cases e:l.dropWhile isBlank=[]
 ·rw [e] at h;exact absurd rfl h
 ·have:=headTok_len _ e;omega
def toksN:Nat->List UInt8->List Tok
 | 0,_=>[]
 | n+1,l=>if (look l).1.k=0 then [] else if (look l).1.k=99 then [bad] else (look l).1 :: toksN n (look l).2
def toks (l:List UInt8):List Tok:=toksN (l.length+1) l
theorem toksN_eq:∀ (n m:Nat)(l:List UInt8),l.length<n->l.length<m->toksN n l=toksN m l
 | 0,_,_,h,_=>by omega
 | _,0,_,_,h=>by omega
 | n+1,m+1,l,hn,hm=>by
  unfold toksN
  by_cases h0:(look l).1.k=0
  ·rw [if_pos h0,if_pos h0]
  ·rw [if_neg h0,if_neg h0]
   by_cases h9:(look l).1.k=99
   ·rw [if_pos h9,if_pos h9]
   ·rw [if_neg h9,if_neg h9]
    have:=look_len l h0
    rw [toksN_eq n m _ (by omega) (by omega)]
theorem toks_unfold (l:List UInt8):toks l=if (look l).1.k=0 then [] else if (look l).1.k=99 then [bad] else (look l).1 :: toks (look l).2:=by
 unfold toks
 rw [toksN]
 by_cases h0:(look l).1.k=0
 ·rw [if_pos h0,if_pos h0]
 ·rw [if_neg h0,if_neg h0]
  by_cases h9:(look l).1.k=99
  ·rw [if_pos h9,if_pos h9]
  ·rw [if_neg h9,if_neg h9]
   have:=look_len l h0
   rw [toksN_eq _ ((look l).2.length+1) _ (by omega) (by omega)]
def hd (ts:List Tok):Tok:=ts.headD fin
theorem wordTok_k (w:List UInt8):(wordTok w).k=1\/(20<=(wordTok w).k/\(wordTok w).k<51)\/wordTok w=bad:=by
 unfold wordTok
 split
 ·rename_i i h
  have:=kwFrom_some h
  right;left;simp;omega
 ·split
  ·right;right;rfl
  ·left;rfl
theorem numTok_k (l:List UInt8):(numTok l).k=2\/numTok l=bad:=by
 unfold numTok;split
 ·right;rfl
 ·left;rfl
theorem litTok_k:∀ (acc l:List UInt8),(litTok acc l).1.k=3\/(litTok acc l).1=bad
 | _,[]=>by right;simp [litTok]
 | acc,[c]=>by
  unfold litTok;split
  ·simp only;split
   ·right;rfl
   ·left;rfl
  ·right;rfl
 | acc,c :: d :: r=>by
  unfold litTok
  split
  ·split
   ·exact litTok_k _ _
   ·simp only;split
    ·right;rfl
    ·left;rfl
  ·exact litTok_k _ _
def signK (n:Nat):Prop:=(4<=n/\n<20)\/n=99
theorem ite_signK {c:Prop} [Decidable c] {a b:Nat}(ha:signK a)(hb:signK b):signK (if c then a else b):=by split <;> assumption
theorem oneSign_k (c:Nat):signK (oneSign c):=by
 unfold oneSign
 repeat' (refine ite_signK (by unfold signK;omega) ?_)
 exact .inr rfl
theorem twoSign_k (c d:Nat):signK (twoSign c d):=by
 unfold twoSign
 repeat' (refine ite_signK (by unfold signK;omega) ?_)
 exact .inr rfl
theorem signTok_k (l:List UInt8):(signTok l).1=fin\/(4<=(signTok l).1.k/\(signTok l).1.k<20)\/(signTok l).1=bad:=by
 match l with
 | []=>left;rfl
 | [c] =>
  rcases oneSign_k c.toNat with h|h
  ·right;left;exact h
  ·right;right;simp [signTok,h,bad]
 | c :: d :: r =>
  simp only [signTok]
  split
  ·rcases oneSign_k c.toNat with h|h
   ·right;left;exact h
   ·right;right;simp [h,bad]
  ·rename_i h9
   rcases twoSign_k c.toNat d.toNat with h|h
   ·right;left;exact h
   ·exact absurd h h9
theorem look_k (l:List UInt8):(look l).1=fin\/(1<=(look l).1.k/\(look l).1.k<51)\/(look l).1=bad:=by
 unfold look
 generalize l.dropWhile isBlank=m
 cases m with
 | nil=>left;rfl
 | cons c r =>
  simp only [headTok]
  split
  ·rcases wordTok_k (List.takeWhile isLD (c :: r)) with h|h|h
   ·right;left;simp only;omega
   ·right;left;simp only;omega
   ·right;right;exact h
  ·split
   ·rcases numTok_k (List.takeWhile isDig (c :: r)) with h|h
    ·right;left;simp only;omega
    ·right;right;exact h
   ·split
    ·rcases litTok_k [] r with h|h
     ·right;left;omega
     ·right;right;exact h
    ·rcases signTok_k (c :: r) with h|h|h
     ·left;exact h
     ·right;left;omega
     ·right;right;exact h
theorem toks_cons (l:List UInt8)(h0:(look l).1.k≠0)(h9:(look l).1.k≠99):toks l=(look l).1 :: toks (look l).2:=by
 rw [toks_unfold,if_neg h0,if_neg h9]
theorem toks_hd (l:List UInt8):hd (toks l)=(look l).1:=by
 rw [toks_unfold]
 rcases look_k l with h|h|h
 ·rw [h,if_pos (show fin.k=0 from rfl)];rfl
 ·rw [if_neg (by omega),if_neg (by omega)];rfl
 ·rw [h,if_neg (by decide),if_pos (by decide)];rfl
theorem toks_tl (l:List UInt8)(h0:(look l).1.k≠0)(h9:(look l).1.k≠99):toks (look l).2=(toks l).tail:=by
 rw [toks_cons l h0 h9];rfl
theorem toks_mem:∀ (n:Nat)(l:List UInt8)(t:Tok),l.length<n->t ∈ toks l->(1<=t.k/\t.k<51)\/t=bad
 | 0,_,_,h,_=>by omega
 | n+1,l,t,hn,ht=>by
  rw [toks_unfold] at ht
  rcases look_k l with h|h|h
  ·rw [h,if_pos (show fin.k=0 from rfl)] at ht;cases ht
  ·rw [if_neg (by omega),if_neg (by omega)] at ht
   rcases List.mem_cons.1 ht with rfl|ht
   ·left;exact h
   ·exact toks_mem n (look l).2 t (by have:=look_len l (by omega);omega) ht
  ·rw [h,if_neg (by decide),if_pos (by decide)] at ht
   right;simpa using ht
theorem spell_inj (i j:Nat)(hi:4<=i)(hi':i<51)(hj:4<=j)(hj':j<51)(h:spell i=spell j):i=j:=by
 have:∀ i j:Fin 51,4<=i.1->4<=j.1->spell i.1=spell j.1->i.1=j.1:=by decide
 exact this ⟨i,hi'⟩ ⟨j,hj'⟩ hi hj h
end Pl
end Go.Proofs.YtojdpjpldokjmaaGreatDoor
