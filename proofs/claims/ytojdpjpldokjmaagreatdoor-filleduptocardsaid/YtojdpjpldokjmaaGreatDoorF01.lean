/- The leaves of the lexers: bytes that are letters, digits. -/
import Derived.Test.YtojdpjpldokjmaaGreatDoorProg
import Derived.Test.YtojdpjpldokjmaaGreatDoorF00
import Derived.WalkKit
import Derived.WalkSpells
import Derived.WalkLawsBesides
set_option maxHeartbeats 60000000
set_option maxRecDepth 100000
namespace Go.Proofs.YtojdpjpldokjmaaGreatDoor
open Go.RowKit
theorem ret_bool {a b:Bool}(h:a=b):Ending.returned (.bool a)=.returned (.bool b):=by rw [h]
theorem ret_str {a b:ByteArray}(h:a=b):Ending.returned (.string a)=.returned (.string b):=by rw [h]
theorem ret_int {k:IntKind}{a b:Int}(h:a=b):Ending.returned (.int k a)=.returned (.int k b):=by rw [h]
theorem isLetter_any (c:UInt8)(w:World) :
 Calls Tryz.prog 143 #[.int .u8 c.toNat] w fun e w'=>e=.returned (.bool (Pl.isLet c))/\w'=w:=by
 go_enter Tryz.func143,Tryz.ntmps143
 go_wp2
 all_goals
  go_ret
  refine ⟨ret_bool ?_,rfl⟩
  rw [Bool.eq_iff_iff,Pl.isLet_iff]
  simp
  omega
theorem isDigit_any (c:UInt8)(w:World) :
 Calls Tryz.prog 145 #[.int .u8 c.toNat] w fun e w'=>e=.returned (.bool (Pl.isDig c))/\w'=w:=by
 go_enter Tryz.func145,Tryz.ntmps145
 go_wp2
 all_goals
  go_ret
  refine ⟨ret_bool ?_,rfl⟩
  rw [Bool.eq_iff_iff,Pl.isDig_iff]
  simp
  omega
theorem isLetterOrDigit_any (c:UInt8)(w:World) :
 Calls Tryz.prog 201 #[.int .u8 c.toNat] w fun e w'=>e=.returned (.bool (Pl.isLD c))/\w'=w:=by
 cases hl:Pl.isLet c
 all_goals
  go_enter Tryz.func201,Tryz.ntmps201
  go_wp2_with (first|(go_at_call 143;refine (isLetter_any _ _).mono ?_;rintro e w' ⟨rfl,rfl⟩)|(go_at_call 145;refine (isDigit_any _ _).mono ?_;rintro e w' ⟨rfl,rfl⟩))
  go_ret
  exact ⟨ret_bool (by simp [Pl.isLD,hl]),rfl⟩
theorem letter_any (c:UInt8)(w:World) :
 Calls Tryz.prog 128 #[.int .u8 c.toNat] w fun e w'=>e=.returned (.bool (Pl.isLet c))/\w'=w:=by
 go_enter Tryz.func128,Tryz.ntmps128
 go_wp2
 all_goals
  go_ret
  refine ⟨ret_bool ?_,rfl⟩
  rw [Bool.eq_iff_iff,Pl.isLet_iff]
  simp
  omega
theorem digit_any (c:UInt8)(w:World) :
 Calls Tryz.prog 129 #[.int .u8 c.toNat] w fun e w'=>e=.returned (.bool (Pl.isDig c))/\w'=w:=by
 go_enter Tryz.func129,Tryz.ntmps129
 go_wp2
 all_goals
  go_ret
  refine ⟨ret_bool ?_,rfl⟩
  rw [Bool.eq_iff_iff,Pl.isDig_iff]
  simp
  omega
theorem Z {p:Prop}(h:p):Hid p:=h
theorem U {p:Prop}(h:Hid p):p:=h
structure Keeps (rb:Nat)(w w':World):Prop where
 os:w'.os=w.os
 tape:w'.tape=w.tape
 output:w'.output=w.output
 size:w.heap.size<=w'.heap.size
 block:∀ k,k<w.heap.size->k≠rb->w'.heap[k]?=w.heap[k]?
theorem Keeps.refl (rb:Nat)(w:World):Keeps rb w w:=⟨rfl,rfl,rfl,Nat.le_refl _,fun _ _ _=>rfl⟩
theorem Keeps.trans {rb:Nat}{a b c:World}(h:Keeps rb a b)(k:Keeps rb b c):Keeps rb a c :=
 ⟨k.os.trans h.os,k.tape.trans h.tape,k.output.trans h.output,Nat.le_trans h.size k.size,fun i hi hne=>(k.block i (Nat.lt_of_lt_of_le hi h.size) hne).trans (h.block i hi hne)⟩
theorem Keeps.below {rb:Nat}{a b c:World}(h:Keeps rb a b)(k:Below b.heap.size b c):Keeps rb a c :=
 h.trans ⟨k.os,k.tape,k.output,k.size,fun i hi _=>k.block i hi⟩
theorem Keeps.set {rb:Nat}{a b:World}(h:Keeps rb a b)(o:Nat)(v:Value):Keeps rb a (b.setCell ⟨rb,o,none⟩ v) :=
 h.trans ⟨rfl,rfl,rfl,by simp [World.setCell],fun i _ hne=>Below.heap_setCell _ _ _ _ hne⟩
theorem Keeps.alloc {rb:Nat}{a b:World}(h:Keeps rb a b)(o:Obj):Keeps rb a (b.alloc o) :=
 h.trans ⟨rfl,rfl,rfl,by simp,fun i hi _=>Below.heap_alloc _ _ _ hi⟩
theorem Keeps.drew {rb:Nat}{a b:World}(h:Keeps rb a b):Keeps rb a b.drew:=⟨h.os,h.tape,h.output,h.size,h.block⟩
theorem Keeps.setNew {rb:Nat}{a b:World}(h:Keeps rb a b){p:Addr}(hp:a.heap.size<=p.block)(v:Value):Keeps rb a (b.setCell p v) :=
 ⟨h.os,h.tape,h.output,by simp [World.setCell];exact h.size,fun i hi hne=>(Below.heap_setCell _ _ _ _ (by omega)).trans (h.block i hi hne)⟩
theorem Keeps.blk {rb:Nat}{w w':World}(h:Keeps rb w w'){k:Nat}{o:Obj}(hne:k≠rb)(hk:w.heap[k]?=some o):w'.heap[k]?=some o:=by
 have hlt:k<w.heap.size:=by
  rcases Nat.lt_or_ge k w.heap.size with h1|h1
  ·exact h1
  ·rw [Array.getElem?_eq_none h1] at hk;cases hk
 rw [h.block k hlt hne,hk]
theorem bB {B:Nat}{w w':World}(h:Below B w w'){k:Nat}{o:Obj}(hlt:k<B)(hk:w.heap[k]?=some o):w'.heap[k]?=some o:=by
 rw [h.block k hlt,hk]
theorem lB {w:World}{k:Nat}{o:Obj}(hk:w.heap[k]?=some o):k<w.heap.size:=by
 rcases Nat.lt_or_ge k w.heap.size with h1|h1
 ·exact h1
 ·rw [Array.getElem?_eq_none h1] at hk;cases hk
theorem bC {w:World}{k:Nat}{C:Array Value}{t:TypeId}(h:w.heap[k]?=some (.cells C t))(o:Nat):w.cell? ⟨k,o,none⟩=C[o]?:=by
 unfold World.cell?;rw [h];simp
theorem bF {w:World}{k:Nat}{C:Array Value}{t:TypeId}(h:w.heap[k]?=some (.cells C t))(o:Nat):w.frozen? ⟨k,o,none⟩=false:=by
 unfold World.frozen?;rw [h];simp
theorem bS {w:World}{k:Nat}{C:Array Value}{t:TypeId}(h:w.heap[k]?=some (.cells C t))(o:Nat)(v:Value):(w.setCell ⟨k,o,none⟩ v).heap[k]?=some (.cells (C.setIfInBounds o v) t):=by
 unfold World.setCell
 simp only [Array.getElem?_modify,h,if_true,Option.map_some]
 rfl
theorem blk_set_ne {w:World}{k j:Nat}{X:Obj}(h:w.heap[k]?=some X)(hne:k≠j)(o:Nat)(v:Value):(w.setCell ⟨j,o,none⟩ v).heap[k]?=some X:=by
 rw [Below.heap_setCell _ _ _ _ hne,h]
theorem bA {w:World}{k:Nat}{X:Obj}(h:w.heap[k]?=some X)(o:Obj):(w.alloc o).heap[k]?=some X:=by
 rw [Below.heap_alloc _ _ _ (lB h),h]
theorem blk_drew {w:World}{k:Nat}{X:Obj}(h:w.heap[k]?=some X):w.drew.heap[k]?=some X:=h
theorem blk_new (w:World)(o:Obj):(w.alloc o).heap[w.heap.size]?=some o:=by
 show (w.heap.push o)[w.heap.size]?=_
 rw [Array.getElem?_push,if_pos rfl]
theorem take_snoc (s:ByteArray)(k:Nat)(h:k<s.size):s.data.toList.take (k+1)=s.data.toList.take k++[s[k]]:=by
 rw [List.take_succ_eq_append_getElem (by simpa using h)];rfl
theorem bcell {W w1:World}(hb:Below W.heap.size W w1):(∀ b o,b<W.heap.size->w1.cell? ⟨b,o,none⟩=W.cell? ⟨b,o,none⟩)/\(∀ b o,b<W.heap.size->w1.frozen? ⟨b,o,none⟩=W.frozen? ⟨b,o,none⟩) :=
 ⟨fun b o h=>hb.cell (p:=⟨b,o,none⟩) h,fun b o h=>hb.frozen (p:=⟨b,o,none⟩) h⟩
theorem byte39 {c:UInt8}(h:c.toNat=39):c=39:=by
 apply UInt8.toNat_inj.1
 rw [h];rfl
theorem str_snoc (acc:List UInt8)(x:UInt8):Value.string ((⟨acc.toArray⟩:ByteArray)++{ data:=#[x] })=.string ⟨(acc++[x]).toArray⟩:=by
 rw [show (#[x]:Array UInt8)=[x].toArray from rfl,ByteArray.mk_append_mk]
theorem ext_list (s:ByteArray)(a b:Nat):(s.extract a b).data.toList=(s.data.toList.take b).drop a:=by
 rw [ByteArray.data_extract,Array.toList_extract,List.extract_eq_take_drop,List.drop_take]
theorem ext_snoc (s:ByteArray)(a b:Nat)(hab:a<=b)(hb:b<s.size):(s.extract a (b+1)).data.toList=(s.extract a b).data.toList++[s[b]]:=by
 rw [ext_list,ext_list,take_snoc s b hb,List.drop_append_of_le_length (by simp;omega)]
theorem ext_nil (s:ByteArray)(a:Nat):(s.extract a a).data.toList=[]:=by
 rw [ext_list];exact List.drop_eq_nil_of_le (by simp;omega)
theorem ext_one (s:ByteArray)(a:Nat)(h:a<s.size):s.extract a (a+1)=⟨[s[a]].toArray⟩:=by
 have:=ext_snoc s a a (Nat.le_refl _) h
 rw [ext_nil] at this
 apply ByteArray.ext
 apply Array.toList_inj.1
 rw [this];rfl
theorem ext_two (s:ByteArray)(a:Nat)(h:a+1<s.size):s.extract a (a+2)=⟨[s[a],s[a+1]].toArray⟩:=by
 have h1:=ext_snoc s a (a+1) (by omega) h
 rw [ext_one s a (by omega)] at h1
 apply ByteArray.ext
 apply Array.toList_inj.1
 rw [h1];rfl
def spanAt (p:UInt8->Bool)(s:ByteArray)(k e:Nat):Prop :=
 (s.extract k e).data.toList++(Pl.from_ s e).takeWhile p=(Pl.from_ s k).takeWhile p/\(Pl.from_ s e).dropWhile p=(Pl.from_ s k).dropWhile p
theorem span_start (p:UInt8->Bool)(s:ByteArray)(k:Nat):spanAt p s k k:=⟨by rw [ext_nil];rfl,rfl⟩
theorem span_more {p:UInt8->Bool}{s:ByteArray}{k e:Nat}(hk:k<=e)(he:e<s.size)(h:spanAt p s k e)(hp:p s[e]=true):spanAt p s k (e+1):=by
 obtain ⟨h1,h2⟩:=h
 rw [Pl.from_lt s e he,List.takeWhile_cons_of_pos hp] at h1
 rw [Pl.from_lt s e he,List.dropWhile_cons_of_pos hp] at h2
 exact ⟨by rw [ext_snoc s k e hk he,<- h1];simp,h2⟩
theorem span_end {p:UInt8->Bool}{s:ByteArray}{k e:Nat}(h:spanAt p s k e)(hr:¬ e<s.size\/∃ h:e<s.size,p s[e]=false) :
 (s.extract k e).data.toList=(Pl.from_ s k).takeWhile p/\Pl.from_ s e=(Pl.from_ s k).dropWhile p:=by
 obtain ⟨h1,h2⟩:=h
 rcases hr with hr|⟨he,hp⟩
 ·rw [Pl.from_ge s e (by omega)] at h1 h2
  refine ⟨by simpa using h1,?_⟩
  rw [Pl.from_ge s e (by omega)];exact h2
 ·rw [Pl.from_lt s e he] at h1 h2
  rw [List.takeWhile_cons_of_neg (by simp [hp])] at h1
  rw [List.dropWhile_cons_of_neg (by simp [hp])] at h2
  refine ⟨by simpa using h1,?_⟩
  rw [Pl.from_lt s e he];exact h2
theorem below_box {w w1:World}(hb:Below w.heap.size w w1)(a b c:Value):Below w.heap.size w (((w1.setCell ⟨w.heap.size,0,none⟩ a).setCell ⟨w.heap.size,1,none⟩ b).setCell ⟨w.heap.size,2,none⟩ c) :=
 ((hb.setCell (Nat.le_refl _) _).setCell (Nat.le_refl _) _).setCell (Nat.le_refl _) _
set_option linter.unusedSimpArgs false
set_option linter.unusedVariables false
def SpellAt (w:World):Prop:=∀ k,k<51->w.cell? ⟨1,k,none⟩=some (.string ⟨(Pl.spell k).toArray⟩)
theorem span_takes {p:UInt8->Bool}{s:ByteArray}{e:Nat}(h:spanAt p s 0 e)(hr:¬ e<s.size\/∃ h:e<s.size,p s[e]=false)(he:e<=s.size):((s.data.toList.takeWhile p).length:Int)=e:=by
 have:=(span_end h hr).1
 rw [ext_list] at this
 have h2:((s.data.toList.take e).drop 0).length=e:=by simp;omega
 rw [this] at h2
 rw [<- Pl.from_zero]
 omega
theorem span_any (p:UInt8->Bool)(f:FuncId)(hcall:∀ (a:Array Value)(w:World),(callFunc f a).run Tryz.prog w=.ok (.enter f a) w)(hf:∀ (c:UInt8)(w:World),Calls Tryz.prog f #[.int .u8 c.toNat] w fun e w'=>e=.returned (.bool (p c))/\w'=w)(s:ByteArray)(w:World)(hs:s.size<=1048576) :
 Calls Tryz.prog 200 #[.string s,.func (.func f) #[] #[]] w fun e w'=>e=.returned (.int .i64 (s.data.toList.takeWhile p).length)/\w'=w:=by
 have HF:=Z hf
 clear hf
 go_enter Tryz.func200,Tryz.ntmps200
 go_wp2_with fail
 go_loop [5] (fun a=>∃ k:Nat,k<=s.size/\a=.int .i64 k/\Hid (spanAt p s 0 k)) (fun a=>s.size - (intOf a).toNat)
 case atStart=>exact ⟨0,Nat.zero_le _,rfl,span_start _ _ _⟩
 case round =>
  obtain ⟨k,hk,rfl,HS⟩:=hrel
  by_cases hlt:k<s.size
  ·cases hp:p s[k]
   ·have HE:=Z (span_takes HS.out (.inr ⟨hlt,hp⟩) hk)
    go_wp2_with fail
    refine (U HF _ _).mono ?_
    rintro e w1 ⟨rfl,rfl⟩
    rw [hp]
    go_wp2_with fail
    go_ret
    exact ⟨ret_int HE.out.symm,rfl⟩
   ·have HR:Hid (spanAt p s 0 (k+1)):=span_more (Nat.zero_le _) hlt HS.out hp
    go_wp2_with fail
    refine (U HF _ _).mono ?_
    rintro e w1 ⟨rfl,rfl⟩
    rw [hp]
    go_wp2_with fail
    go_round
    case rel=>exact ⟨k+1,by omega,by go_num,HR⟩
    case measure=>simp [intOf];omega
  ·have HE:=Z (span_takes HS.out (.inl hlt) hk)
   go_wp2_with fail
   go_ret
   exact ⟨ret_int HE.out.symm,rfl⟩
theorem span_word (s:ByteArray)(w:World)(hs:s.size<=1048576):Calls Tryz.prog 200 #[.string s,.func (.func 201) #[] #[]] w fun e w'=>e=.returned (.int .i64 (s.data.toList.takeWhile Pl.isLD).length)/\w'=w :=
 span_any Pl.isLD 201 (fun a w=>by go_simp) isLetterOrDigit_any s w hs
theorem span_digits (s:ByteArray)(w:World)(hs:s.size<=1048576):Calls Tryz.prog 200 #[.string s,.func (.func 145) #[] #[]] w fun e w'=>e=.returned (.int .i64 (s.data.toList.takeWhile Pl.isDig).length)/\w'=w :=
 span_any Pl.isDig 145 (fun a w=>by go_simp) isDigit_any s w hs
def kwN (g:List UInt8):Int:=match Pl.kwOf g with
 | some i=>((20+i:Nat):Int)
 | none=>0
theorem keyword_any (g:List UInt8)(w:World)(hg:SpellAt w) :
 Calls Tryz.prog 202 #[.string ⟨g.toArray⟩] w fun e w'=>e=.returned (.int .i64 (kwN g))/\w'=w:=by
 have HG:=Z hg
 clear hg
 go_enter Tryz.func202,Tryz.ntmps202
 go_wp2_with fail
 go_loop [3] (fun a=>∃ i:Nat,i<=31/\a=.int .i64 ((20+i:Nat):Int)/\Hid (∀ j,j<i->Pl.spell (20+j)≠g)) (fun a=>51 - (intOf a).toNat)
 case atStart=>exact ⟨0,by omega,rfl,fun j hj=>by omega⟩
 case round =>
  obtain ⟨i,hi,rfl,HNO⟩:=hrel
  by_cases hlt:i<31
  ·have hc:=HG.out (20+i) (by omega)
   cases he:(Pl.spell (20+i) == g)
   ·go_wp2_with fail
    go_round
    case rel=>exact ⟨i+1,by omega,by go_num,fun j hj=>by
     by_cases e:j=i
     ·subst e;simpa using he
     ·exact HNO.out j (by omega)⟩
    case measure=>simp [intOf];omega
   ·have HK:Hid (kwN g=((20+i:Nat):Int)):=by
     show kwN g=_
     unfold kwN Pl.kwOf
     rw [Pl.kwFrom_hit (Nat.zero_le _) (by omega) (fun j _ hj=>HNO.out j hj) (by simpa using he)]
    go_wp2_with fail
    go_ret
    exact ⟨ret_int (by rw [HK.out];omega),rfl⟩
  ·have HK:Hid (kwN g=0):=by
    show kwN g=_
    unfold kwN Pl.kwOf
    rw [Pl.kwFrom_none (fun j _ hj=>HNO.out j (by omega))]
   go_wp2_with fail
   go_ret
   exact ⟨ret_int (by rw [HK.out]),rfl⟩
namespace Pl
def cTok (t:Tok):Value:=.agg #[.int .i64 t.k,.int .i64 t.n,.string ⟨t.s.toArray⟩]
theorem cTok_eq (t:Tok):cTok t=.agg #[.int .i64 t.k,.int .i64 t.n,.string ⟨t.s.toArray⟩]:=rfl
def tok0:Value:=.agg #[.int .i64 0,.int .i64 0,.string ⟨#[]⟩]
def cut1 (z:Tok × List UInt8)(l:List UInt8):Value:=if z.1.k=99 then .tuple #[tok0,.int .i64 0] else .tuple #[cTok z.1,.int .i64 ((l.length - z.2.length:Nat):Int)]
theorem cut1_bad {z:Tok × List UInt8}{l:List UInt8}(h:z.1.k=99):cut1 z l=.tuple #[tok0,.int .i64 0]:=by unfold cut1;rw [if_pos h]
theorem cut1_ok {z:Tok × List UInt8}{l:List UInt8}(h:z.1.k≠99):cut1 z l=.tuple #[cTok z.1,.int .i64 ((l.length - z.2.length:Nat):Int)]:=by unfold cut1;rw [if_neg h]
theorem sign_hit {c:UInt8}{r:List UInt8}{k:Nat}(h4:4<=k)(h20:k<20)(hp:(spell k).isPrefixOf (c :: r)=true)(hno:∀ j,4<=j->j<k->(spell j).isPrefixOf (c :: r)=false) :
 signTok (c :: r)=(⟨k,0,[]⟩,(c :: r).drop (spell k).length):=by
 have hk:k=4\/k=5\/k=6\/k=7\/k=8\/k=9\/k=10\/k=11\/k=12\/k=13\/k=14\/k=15\/k=16\/k=17\/k=18\/k=19:=by omega
 have n4:=hno 4 (by omega)
 have n5:=hno 5 (by omega)
 have n6:=hno 6 (by omega)
 clear hno
 cases r with
 | nil=>rcases hk with rfl|rfl|rfl|rfl|rfl|rfl|rfl|rfl|rfl|rfl|rfl|rfl|rfl|rfl|rfl|rfl <;> simp [spell,spells,List.isPrefixOf] at hp <;> subst hp <;> rfl
 | cons d r =>
  rcases hk with rfl|rfl|rfl|rfl|rfl|rfl|rfl|rfl|rfl|rfl|rfl|rfl|rfl|rfl|rfl|rfl
  ·simp [spell,spells,List.isPrefixOf] at hp;obtain ⟨rfl,rfl⟩:=hp;rfl
  ·simp [spell,spells,List.isPrefixOf] at hp;obtain ⟨rfl,rfl⟩:=hp;rfl
  ·simp [spell,spells,List.isPrefixOf] at hp;obtain ⟨rfl,rfl⟩:=hp;rfl
  all_goals
   have n4:=n4 (by omega)
   have n5:=n5 (by omega)
   have n6:=n6 (by omega)
   simp [spell,spells,List.isPrefixOf] at n4 n5 n6
   have ht:twoSign c.toNat d.toNat=99:=by
    unfold twoSign
    rw [if_neg,if_neg,if_neg]
    ·rintro ⟨h1,h2⟩;exact n6 (UInt8.toNat_inj.1 h1).symm (UInt8.toNat_inj.1 h2).symm
    ·rintro ⟨h1,h2⟩;exact n5 (UInt8.toNat_inj.1 h1).symm (UInt8.toNat_inj.1 h2).symm
    ·rintro ⟨h1,h2⟩;exact n4 (UInt8.toNat_inj.1 h1).symm (UInt8.toNat_inj.1 h2).symm
   rw [signTok,ht,if_pos rfl]
   clear ht n4 n5 n6
   simp [spell,spells,List.isPrefixOf] at hp
   subst hp
   rfl
theorem sign_miss {c:UInt8}{r:List UInt8}(hno:∀ j,4<=j->j<20->(spell j).isPrefixOf (c :: r)=false):(signTok (c :: r)).1.k=99:=by
 have n4:=hno 4 (by omega) (by omega)
 have n5:=hno 5 (by omega) (by omega)
 have n6:=hno 6 (by omega) (by omega)
 have one:oneSign c.toNat=99:=by
  have m:=fun j (h1:7<=j) (h2:j<20)=>hno j (by omega) h2
  have q:∀ (j:Nat) (x:UInt8) (n:Nat),x.toNat=n->7<=j->j<20->spell j=[x]->¬ c.toNat=n:=fun j x n hn h1 h2 hs e=>by
   have:=m j h1 h2
   rw [hs] at this
   simp [List.isPrefixOf] at this
   exact this (UInt8.toNat_inj.1 (e.trans hn.symm)).symm
  unfold oneSign
  rw [if_neg (q 7 40 40 rfl (by omega) (by omega) rfl),if_neg (q 8 41 41 rfl (by omega) (by omega) rfl),if_neg (q 9 44 44 rfl (by omega) (by omega) rfl),if_neg (q 10 46 46 rfl (by omega) (by omega) rfl),if_neg (q 11 59 59 rfl (by omega) (by omega) rfl),if_neg (q 12 61 61 rfl (by omega) (by omega) rfl),if_neg (q 13 60 60 rfl (by omega) (by omega) rfl),if_neg (q 14 62 62 rfl (by omega) (by omega) rfl),if_neg (q 15 43 43 rfl (by omega) (by omega) rfl),if_neg (q 16 45 45 rfl (by omega) (by omega) rfl),if_neg (q 17 42 42 rfl (by omega) (by omega) rfl),if_neg (q 18 47 47 rfl (by omega) (by omega) rfl),if_neg (q 19 37 37 rfl (by omega) (by omega) rfl)]
 cases r with
 | nil=>simp only [signTok];exact one
 | cons d r =>
  have ht:twoSign c.toNat d.toNat=99:=by
   simp [spell,spells,List.isPrefixOf] at n4 n5 n6
   unfold twoSign
   rw [if_neg,if_neg,if_neg]
   ·rintro ⟨h1,h2⟩;exact n6 (UInt8.toNat_inj.1 h1).symm (UInt8.toNat_inj.1 h2).symm
   ·rintro ⟨h1,h2⟩;exact n5 (UInt8.toNat_inj.1 h1).symm (UInt8.toNat_inj.1 h2).symm
   ·rintro ⟨h1,h2⟩;exact n4 (UInt8.toNat_inj.1 h1).symm (UInt8.toNat_inj.1 h2).symm
  rw [signTok,ht,if_pos rfl];exact one
end Pl
structure LexLib:Prop where
 pre:∀ (s p:ByteArray) (w:World),Calls Tryz.prog 206 #[.string s,.string p] w fun e w'=>e=.returned (.bool (p.data.toList.isPrefixOf s.data.toList))/\w'=w
 upper:∀ (s:ByteArray) (w:World),s.size<=1048576->(∀ c ∈ s.data.toList,c.toNat<128)->Calls Tryz.prog 203 #[.string s] w fun e w'=>e=.returned (.string ⟨(s.data.toList.map Pl.up).toArray⟩)/\Below w.heap.size w w'
 trim:∀ (s:ByteArray) (w:World),Calls Tryz.prog 142 #[.string s,.string ⟨#[32,9,10]⟩] w fun e w'=>e=.returned (.string ⟨(s.data.toList.dropWhile Pl.isBlank).toArray⟩)/\Below w.heap.size w w'
 clone:∀ (s:ByteArray) (w:World),s.size<=1048576->Calls Tryz.prog 204 #[.string s] w fun e w'=>e=.returned (.string s)/\Below w.heap.size w w'
 atoi:∀ (s:ByteArray) (w:World),s.size<=1048576->(∀ c ∈ s.data.toList,Pl.isDig c=true)->s.data.toList≠[]->Pl.worth 0 s.data.toList<=9223372036854775807->Calls Tryz.prog 205 #[.string s] w fun e w'=>e=.returned (.tuple #[.int .i64 (Pl.worth 0 s.data.toList),.nilIface])/\Below w.heap.size w w'
 great:∀ (s:ByteArray) (w:World),s.size<=1048576->(∀ c ∈ s.data.toList,Pl.isDig c=true)->s.data.toList≠[]->9223372036854775807<Pl.worth 0 s.data.toList->(∃ te pe,w.cell? ⟨8,0,none⟩=some (.iface te pe))->Calls Tryz.prog 205 #[.string s] w fun e w'=>∃ n te pe,e=.returned (.tuple #[.int .i64 n,.iface te pe])/\Below w.heap.size w w'
theorem lt_of_cell {w:World}{b o:Nat}{v:Value}(h:w.cell? ⟨b,o,none⟩=some v):b<w.heap.size:=by
 rcases Nat.lt_or_ge b w.heap.size with h1|h1
 ·exact h1
 ·exfalso
  unfold World.cell? at h
  rw [Array.getElem?_eq_none h1] at h
  simp at h
theorem SpellAt.lt {w:World}(h:SpellAt w) : 1<w.heap.size:=lt_of_cell (h 0 (by omega))
theorem sign_any (X:LexLib)(c:UInt8)(r:List UInt8)(w:World)(hg:SpellAt w) :
 Calls Tryz.prog 148 #[.string ⟨(c :: r).toArray⟩] w fun e w'=>e=.returned (Pl.cut1 (Pl.signTok (c :: r)) (c :: r))/\Below w.heap.size w w':=by
 have HG:=Z hg
 have HX:=Z X.pre
 clear hg X
 go_enter Tryz.func148,Tryz.ntmps148
 go_wp2_with fail
 go_loop [4] (fun a=>∃ i:Nat,4<=i/\i<=20/\a=.int .i64 i/\Hid (∀ j,4<=j->j<i->(Pl.spell j).isPrefixOf (c :: r)=false)) (fun a=>20 - (intOf a).toNat)
 case atStart=>exact ⟨4,by omega,by omega,rfl,fun j h1 h2=>by omega⟩
 case round =>
  obtain ⟨i,h4,hi,rfl,HN⟩:=hrel
  by_cases hlt:i<20
  ·have hc:=HG.out i (by omega)
   have hz:=HG.out.lt
   have HC:Hid (∀ w,Calls Tryz.prog 206 #[.string ⟨(c :: r).toArray⟩,.string ⟨(Pl.spell i).toArray⟩] w fun e w'=>e=.returned (.bool ((Pl.spell i).isPrefixOf (c :: r)))/\w'=w):=fun w=>HX.out _ _ w
   cases hp:(Pl.spell i).isPrefixOf (c :: r)
   ·go_wp2_with fail
    refine (U HC _).mono ?_
    rintro e w1 ⟨rfl,rfl⟩
    rw [hp]
    go_wp2_with fail
    go_round
    case rel=>exact ⟨i+1,by omega,by omega,by go_num,fun j h1 h2=>by
     by_cases e:j=i
     ·subst e;exact hp
     ·exact HN.out j h1 (by omega)⟩
    case measure=>simp [intOf];omega
   ·have hs:=Pl.sign_hit h4 hlt hp HN.out
    have HV:Hid (Pl.cut1 (Pl.signTok (c :: r)) (c :: r)=.tuple #[.agg #[.int .i64 i,.int .i64 0,.string ⟨#[]⟩],.int .i64 (Pl.spell i).length]):=by
     unfold Hid
     rw [Pl.cut1_ok (by rw [hs];show i≠99;omega),hs,Pl.cTok_eq]
     have hl:(Pl.spell i).length<=(c :: r).length:=(List.isPrefixOf_iff_prefix.1 hp).length_le
     simp only [List.length_drop]
     rw [show (c :: r).length - ((c :: r).length - (Pl.spell i).length)=(Pl.spell i).length by omega]
    clear hs
    go_wp2_with fail
    refine (U HC _).mono ?_
    rintro e w1 ⟨rfl,rfl⟩
    rw [hp]
    go_wp2_with fail
    go_region
    go_wp2_with fail
    refine bodyPost_ret (v:=.tuple #[.agg #[.int .i64 i,.int .i64 0,.string ⟨#[]⟩],.int .i64 (Pl.spell i).length]) ?_ rfl ⟨by rw [HV.out],((Below.refl _ _).alloc (Nat.le_refl _) _).drew⟩
    simp [results,Tryz.results148,go_sem]
  ·have HV:=Z (Pl.cut1_bad (l:=c :: r) (Pl.sign_miss (fun j h1 h2=>HN.out j h1 (by omega))))
   go_wp2_with fail
   refine bodyPost_ret (v:=.tuple #[Pl.tok0,.int .i64 0]) ?_ rfl ⟨by rw [HV.out],(Below.refl _ _).alloc (Nat.le_refl _) _⟩
   simp [results,Tryz.results148,go_sem,Pl.tok0]
open Go.RowKit
set_option linter.unusedSimpArgs false
set_option linter.unusedVariables false
theorem tw_le (p:UInt8->Bool):∀ l:List UInt8,(l.takeWhile p).length<=l.length
 | []=>Nat.le_refl _
 | c :: r=>by rw [List.takeWhile_cons];split;simp;exact tw_le p r;simp
theorem tw_dw (p:UInt8->Bool)(l:List UInt8):(l.takeWhile p).length+(l.dropWhile p).length=l.length:=by
 rw [<- List.length_append,List.takeWhile_append_dropWhile]
theorem take_tw (p:UInt8->Bool):∀ l:List UInt8,l.take (l.takeWhile p).length=l.takeWhile p
 | []=>rfl
 | c :: r=>by
  rw [List.takeWhile_cons];split
  ·simp [take_tw p r]
  ·rfl
theorem ext_tw (p:UInt8->Bool)(s:ByteArray):(s.extract 0 (s.data.toList.takeWhile p).length).data.toList=s.data.toList.takeWhile p:=by
 rw [ext_list,List.drop_zero,take_tw]
def ErrAt (w:World):Prop:=∃ te pe,w.cell? ⟨8,0,none⟩=some (.iface te pe)
theorem ErrAt.alloc {w:World}(h:ErrAt w)(o:Obj):ErrAt (w.alloc o):=by
 obtain ⟨te,pe,hc⟩:=h
 exact ⟨te,pe,by rw [World.cell?_alloc_past (hn:=lt_of_cell hc)];exact hc⟩
theorem number_any (X:LexLib)(s:ByteArray)(w:World)(hs:s.size<=1048576)(h0:(s.data.toList.takeWhile Pl.isDig)≠[])(hg:ErrAt w) :
 Calls Tryz.prog 146 #[.string s] w fun e w'=>e=.returned (Pl.cut1 (Pl.numTok (s.data.toList.takeWhile Pl.isDig),s.data.toList.dropWhile Pl.isDig) s.data.toList)/\Below w.heap.size w w':=by
 have HS:=Z (span_digits s)
 have hn:(s.data.toList.takeWhile Pl.isDig).length<=s.size:=by simpa using tw_le Pl.isDig s.data.toList
 have HE:=Z (ext_tw Pl.isDig s)
 have HD:=Z (tw_dw Pl.isDig s.data.toList)
 have HM:Hid (∀ c ∈ s.data.toList.takeWhile Pl.isDig,Pl.isDig c=true):=fun c hc=>Pl.mem_tw hc
 generalize hds:s.data.toList.takeWhile Pl.isDig=ds at *
 generalize hrr:s.data.toList.dropWhile Pl.isDig=rr at *
 have HX:=Z X
 have HG:=Z hg
 have H0:=Z h0
 have hes:(s.extract 0 ds.length).size<=1048576:=by rw [ByteArray.size_extract];omega
 have HES:=Z hes
 clear X hg h0 hds hrr hes
 by_cases hw:9223372036854775807<Pl.worth 0 ds
 ·have HV:Hid (Pl.cut1 (Pl.numTok ds,rr) s.data.toList=.tuple #[Pl.tok0,.int .i64 0]):=Pl.cut1_bad (by unfold Pl.numTok;rw [if_pos hw];rfl)
  have HW:=Z hw
  clear hw
  go_enter Tryz.func146,Tryz.ntmps146
  go_wp2_with fail
  refine (U HS _ hs).mono ?_
  rintro e w1 ⟨rfl,rfl⟩
  go_wp2_with fail
  refine (HX.out.great _ _ HES.out (by rw [HE.out];exact HM.out) (by rw [HE.out];exact H0.out) (by rw [HE.out];exact HW.out) (ErrAt.alloc HG.out _)).mono ?_
  rintro e w2 ⟨n,te,pe,rfl,hb⟩
  obtain ⟨c1,f1⟩:=bcell hb
  go_wp2_with fail
  refine bodyPost_ret (v:=.tuple #[Pl.tok0,.int .i64 0]) ?_ rfl ⟨by rw [HV.out],?_⟩
  ·simp [results,Tryz.results146,go_sem,Pl.tok0,c1]
  ·exact below_box (((Below.refl _ _).alloc (Nat.le_refl _) _).trans (hb.mono (by simp))) _ _ _
 ·have HV:Hid (Pl.cut1 (Pl.numTok ds,rr) s.data.toList=.tuple #[.agg #[.int .i64 2,.int .i64 (Pl.worth 0 ds),.string ⟨#[]⟩],.int .i64 ds.length]):=by
   have e:Pl.numTok ds=⟨2,Pl.worth 0 ds,[]⟩:=by unfold Pl.numTok;rw [if_neg hw]
   unfold Hid
   rw [Pl.cut1_ok (by rw [e];show (2:Nat)≠99;decide),e,Pl.cTok_eq]
   simp only
   rw [show s.data.toList.length - rr.length=ds.length by have:=HD.out;omega]
   rfl
  have HW:=Z hw
  clear hw
  go_enter Tryz.func146,Tryz.ntmps146
  go_wp2_with fail
  refine (U HS _ hs).mono ?_
  rintro e w1 ⟨rfl,rfl⟩
  go_wp2_with fail
  refine (HX.out.atoi _ _ HES.out (by rw [HE.out];exact HM.out) (by rw [HE.out];exact H0.out) (by rw [HE.out];have:=HW.out;omega)).mono ?_
  rw [HE.out]
  rintro e w2 ⟨rfl,hb⟩
  obtain ⟨c1,f1⟩:=bcell hb
  go_wp2_with fail
  refine bodyPost_ret (v:=.tuple #[.agg #[.int .i64 2,.int .i64 (Pl.worth 0 ds),.string ⟨#[]⟩],.int .i64 ds.length]) ?_ rfl ⟨by rw [HV.out],?_⟩
  ·simp [results,Tryz.results146,go_sem,c1]
  ·exact below_box (((Below.refl _ _).alloc (Nat.le_refl _) _).trans (hb.mono (by simp))) _ _ _
theorem ascii_ld {c:UInt8}(h:Pl.isLD c=true):c.toNat<128:=by
 unfold Pl.isLD at h
 simp only [Bool.or_eq_true] at h
 rcases h with h|h
 ·have:=(Pl.isLet_iff c).1 h;omega
 ·have:=(Pl.isDig_iff c).1 h;omega
theorem SpellAt.below {w w':World}(h:SpellAt w)(hb:Below w.heap.size w w'):SpellAt w':=fun k hk=>by
 rw [hb.cell (p:=⟨1,k,none⟩) h.lt];exact h k hk
theorem ErrAt.below {w w':World}(h:ErrAt w)(hb:Below w.heap.size w w'):ErrAt w':=by
 obtain ⟨te,pe,hc⟩:=h
 exact ⟨te,pe,by rw [hb.cell (p:=⟨8,0,none⟩) (lt_of_cell hc)];exact hc⟩
theorem word_code (X:LexLib)(s:ByteArray)(w:World)(hs:s.size<=1048576)(hg:SpellAt w) :
 Calls Tryz.prog 144 #[.string s] w fun e w'=>e=.returned (Pl.cut1 (Pl.wordTok (s.data.toList.takeWhile Pl.isLD),s.data.toList.dropWhile Pl.isLD) s.data.toList)/\Below w.heap.size w w':=by
 have HS:=Z (span_word s)
 have hn:(s.data.toList.takeWhile Pl.isLD).length<=s.size:=by simpa using tw_le Pl.isLD s.data.toList
 have HE:=Z (ext_tw Pl.isLD s)
 have HD:=Z (tw_dw Pl.isLD s.data.toList)
 have HM:Hid (∀ c ∈ s.data.toList.takeWhile Pl.isLD,c.toNat<128):=fun c hc=>ascii_ld (Pl.mem_tw hc)
 generalize hds:s.data.toList.takeWhile Pl.isLD=ds at *
 generalize hrr:s.data.toList.dropWhile Pl.isLD=rr at *
 have HX:=Z X
 have HG:=Z hg
 have hes:(s.extract 0 ds.length).size<=1048576:=by rw [ByteArray.size_extract];omega
 have HES:=Z hes
 clear X hg hds hrr hes
 go_enter Tryz.func144,Tryz.ntmps144
 go_wp2_with fail
 refine (U HS _ hs).mono ?_
 rintro e w1 ⟨rfl,rfl⟩
 go_wp2_with fail
 refine (HX.out.upper _ _ HES.out (by rw [HE.out];exact HM.out)).mono ?_
 rw [HE.out]
 rintro e w2 ⟨rfl,hb⟩
 obtain ⟨c1,f1⟩:=bcell hb
 have HB:=Z (((Below.refl w.heap.size w).alloc (Nat.le_refl _) _).trans (hb.mono (by simp)))
 have hz3:=Z hb.size
 clear hb
 go_wp2_with fail
 refine (keyword_any (ds.map Pl.up) w2 (HG.out.below HB.out)).mono ?_
 rintro e w3 ⟨rfl,rfl⟩
 cases hk:Pl.kwOf (ds.map Pl.up) with
 | some i =>
  have hi:=Pl.kwFrom_some hk
  have e:Pl.wordTok ds=⟨20+i,0,[]⟩:=by unfold Pl.wordTok;rw [hk]
  have HV:Hid (Pl.cut1 (Pl.wordTok ds,rr) s.data.toList=.tuple #[.agg #[.int .i64 ((20+i:Nat):Int),.int .i64 0,.string ⟨#[]⟩],.int .i64 ds.length]):=by
   unfold Hid
   rw [Pl.cut1_ok (by rw [e];show 20+i≠99;omega),e,Pl.cTok_eq]
   simp only
   rw [show s.data.toList.length - rr.length=ds.length by have:=HD.out;omega]
  have hkn:kwN (ds.map Pl.up)=((20+i:Nat):Int):=by unfold kwN;rw [hk]
  rw [hkn]
  have h31:i<31:=by omega
  clear hi hk e hkn
  go_wp2_with fail
  refine bodyPost_ret (v:=.tuple #[.agg #[.int .i64 ((20+i:Nat):Int),.int .i64 0,.string ⟨#[]⟩],.int .i64 ds.length]) ?_ rfl ⟨by rw [HV.out],?_⟩
  ·simp [results,Tryz.results144,go_sem,c1]
  ·exact below_box HB.out _ _ _
 | none =>
  have hkn:kwN (ds.map Pl.up)=0:=by unfold kwN;rw [hk]
  rw [hkn]
  by_cases h10:10<ds.length
  ·have HV:Hid (Pl.cut1 (Pl.wordTok ds,rr) s.data.toList=.tuple #[Pl.tok0,.int .i64 0]):=Pl.cut1_bad (by unfold Pl.wordTok;rw [hk];simp only;rw [if_pos h10];rfl)
   clear hk hkn
   go_wp2_with fail
   refine bodyPost_ret (v:=.tuple #[Pl.tok0,.int .i64 0]) ?_ rfl ⟨by rw [HV.out],?_⟩
   ·simp [results,Tryz.results144,go_sem,Pl.tok0,c1]
   ·exact below_box HB.out _ _ _
  ·have HV:Hid (Pl.cut1 (Pl.wordTok ds,rr) s.data.toList=.tuple #[.agg #[.int .i64 1,.int .i64 0,.string ⟨ds.toArray⟩],.int .i64 ds.length]):=by
    have e:Pl.wordTok ds=⟨1,0,ds⟩:=by unfold Pl.wordTok;rw [hk];simp only;rw [if_neg h10]
    unfold Hid
    rw [Pl.cut1_ok (by rw [e];show (1:Nat)≠99;decide),e,Pl.cTok_eq]
    simp only
    rw [show s.data.toList.length - rr.length=ds.length by have:=HD.out;omega]
    rfl
   have HQ:Hid (s.extract 0 ds.length=⟨ds.toArray⟩):=by
    unfold Hid
    apply ByteArray.ext
    apply Array.toList_inj.1
    rw [HE.out]
   clear hk hkn
   go_wp2_with fail
   refine (HX.out.clone _ _ HES.out).mono ?_
   rw [HQ.out]
   rintro e w4 ⟨rfl,hb4⟩
   have hz:w.heap.size<w3.heap.size:=by have:=HB.out.size;have h2:=hz3.out;simp at h2;omega
   obtain ⟨c4,f4⟩:=bcell hb4
   have HB4:=Z (HB.out.trans (hb4.mono (by omega)))
   go_wp2_with fail
   refine bodyPost_ret (v:=.tuple #[.agg #[.int .i64 1,.int .i64 0,.string ⟨ds.toArray⟩],.int .i64 ds.length]) ?_ rfl ⟨by rw [HV.out],?_⟩
   ·simp [results,Tryz.results144,go_sem,c4,c1,hz]
   ·exact below_box HB4.out _ _ _
theorem conv1 (wx:World)(n:Int):(convert 83 9 (.slice (some ⟨wx.heap.size,0,none⟩) 1 1)).run Tryz.prog (wx.alloc (.cells #[.int .u8 n] 5))=.ok (.string ⟨#[UInt8.ofNat n.toNat]⟩) (wx.alloc (.cells #[.int .u8 n] 5)):=by
 have h:=run_convert_bytes_arg (P:=Tryz.prog) (wx.alloc (.cells #[.int .u8 n] 5)) 83 5 Tryz.underlying83 Tryz.underlying5 wx.heap.size 0 1 1 [n] rfl (by
  intro i hi
  have:i=0:=by omega
  subst this
  simp) 9 Tryz.underlying9
 rw [h]
 simp [strOfNums]
theorem great_step (s:ByteArray)(k:Nat)(h:k<s.size)(x:UInt8)(hx:x=Pl.up s[k]) :
 Value.string (({ data:=(List.take k (List.map Pl.up s.data.toList)).toArray }:ByteArray)++{ data:=#[x] })=.string ⟨((s.data.toList.take (k+1)).map Pl.up).toArray⟩:=by
 have:=ByteArray.mk_append_mk (List.take k (List.map Pl.up s.data.toList)) [x]
 rw [show (#[x]:Array UInt8)=[x].toArray from rfl,this,take_snoc s k h]
 simp [hx]
theorem up_lo {c:UInt8}(h1:(97:Int)<=c.toNat)(h2:(c.toNat:Int)<=122):UInt8.ofNat (c.toNat - 32)=Pl.up c:=by
 unfold Pl.up;rw [if_pos (by omega)]
theorem up_no {c:UInt8}(h:¬ ((97:Int)<=c.toNat/\(c.toNat:Int)<=122)):c=Pl.up c:=by
 unfold Pl.up;rw [if_neg (by omega)]
theorem great_any (s:ByteArray)(w:World)(hs:s.size<=10) :
 Calls Tryz.prog 188 #[.string s] w fun e w'=>e=.returned (.string ⟨(s.data.toList.map Pl.up).toArray⟩)/\Below w.heap.size w w':=by
 have kc:=conv1
 go_enter Tryz.func188,Tryz.ntmps188
 go_wp2
 go_loopw [3,4] (fun o i wr=>∃ k:Nat,k<=s.size/\i=.int .i64 k/\o=.string ⟨((s.data.toList.take k).map Pl.up).toArray⟩/\Below w.heap.size w wr) (fun _ i _=>s.size - (intOf i).toNat)
 case atStart=>exact ⟨0,Nat.zero_le _,rfl,rfl,Below.refl _ _⟩
 case round =>
  obtain ⟨k,hk,rfl,rfl,hb⟩:=hrel
  by_cases hlt:k<s.size
  ·go_wp2
   all_goals
    go_roundw
    case rel=>exact ⟨k+1,by omega,by go_num,great_step s k hlt _ (by first|exact up_lo ‹_› ‹_›|exact up_no (by omega)),hb.alloc hb.size _⟩
    case measure=>simp [intOf];omega
  ·go_wp2
   go_ret
   exact ⟨ret_str (by rw [List.take_of_length_le (by simp;omega)]),hb⟩
def kwCells:Array Value:=((Pl.spells.drop 20).map (fun l=>Value.string ⟨l.toArray⟩)).toArray
theorem keywords_any (w:World) :
 Calls Tryz.prog 189 #[] w fun e w'=>∃ b,e=.returned (.slice (some ⟨b,0,none⟩) 31 31)/\w.heap.size<=b/\b<w'.heap.size/\(∀ i,i<31->w'.cell? ⟨b,i,none⟩=some (.string ⟨(Pl.spell (20+i)).toArray⟩))/\Below w.heap.size w w':=by
 go_enter Tryz.func189,Tryz.ntmps189
 go_wp2
 go_ret
 refine ⟨w.heap.size,rfl,Nat.le_refl _,by simp,?_,(Below.refl _ _).alloc (Nat.le_refl _) _⟩
 intro i hi
 rw [World.cell?_alloc_at (hn:=rfl)]
 refine (congrArg (fun A:Array Value=>A[i]?) (show _=kwCells from rfl)).trans ?_
 unfold kwCells Pl.spell
 simp only [List.getElem?_toArray,List.getElem?_map,List.getElem?_drop,List.getD_eq_getElem?_getD]
 rw [List.getElem?_eq_getElem (by simp [Pl.spells];omega)]
 rfl
theorem wordTok_hit (l:List UInt8)(k:Nat)(hk:k<31)(hno:∀ j,j<k->Pl.spell (20+j)≠l.map Pl.up)(he:Pl.spell (20+k)=l.map Pl.up) :
 Pl.refTok (Pl.wordTok l)=.agg #[.int .u8 107,.string ⟨(l.map Pl.up).toArray⟩,.int .i64 0]:=by
 have hw:Pl.kwOf (l.map Pl.up)=some k:=Pl.kwFrom_hit (Nat.zero_le _) (by omega) (fun j _ hj=>hno j hj) he
 unfold Pl.wordTok
 rw [hw]
 simp only [Pl.refTok,Pl.refN,Pl.refB,Pl.refK,Pl.refS]
 rw [if_neg (by omega),if_neg (by omega),if_neg (by omega),if_neg (by omega),if_neg (by omega),if_pos (by omega),if_neg (by omega),if_neg (by omega),he]
theorem wordTok_name (l:List UInt8)(hno:∀ j,j<31->Pl.spell (20+j)≠l.map Pl.up)(hl:l.length<=10) :
 Pl.refTok (Pl.wordTok l)=.agg #[.int .u8 119,.string ⟨l.toArray⟩,.int .i64 0]:=by
 have hw:Pl.kwOf (l.map Pl.up)=none:=Pl.kwFrom_none (fun j _ hj=>hno j (by omega))
 unfold Pl.wordTok
 rw [hw]
 simp only
 rw [if_neg (by omega)]
 rfl
theorem wordTok_long (l:List UInt8)(hl:10<l.length) :
 Pl.refTok (Pl.wordTok l)=.agg #[.int .u8 120,.string ⟨#[]⟩,.int .i64 0]:=by
 have hw:Pl.kwOf (l.map Pl.up)=none:=Pl.kwOf_long (by simp;omega)
 unfold Pl.wordTok
 rw [hw]
 simp only
 rw [if_pos hl]
 rfl
theorem word_any (s:ByteArray)(w:World) :
 Calls Tryz.prog 130 #[.string s] w fun e w'=>e=.returned (Pl.refTok (Pl.wordTok s.data.toList))/\Below w.heap.size w w':=by
 by_cases hs:s.size<=10
 ·go_enter Tryz.func130,Tryz.ntmps130
  go_wp2_with fail
  refine (great_any s _ hs).mono ?_
  rintro e w1 ⟨rfl,hb1⟩
  go_wp2_with fail
  refine (keywords_any _).mono ?_
  rintro e w2 ⟨kb,rfl,hk1,hk2,hcell,hb2⟩
  obtain ⟨c1,f1⟩:=bcell hb1
  obtain ⟨c2,f2⟩:=bcell hb2
  have z1:w.heap.size<w1.heap.size:=by have:=hb1.size;simp at this;omega
  have z2:w.heap.size<w2.heap.size:=by have:=hb2.size;omega
  have hbb:Below w.heap.size w w2:=(((Below.refl _ _).alloc (Nat.le_refl _) _).trans (hb1.mono (by simp))).trans (hb2.mono (by omega))
  go_wp2_with fail
  go_loop [5] (fun i=>∃ k:Nat,k<=31/\i=.int .i64 k/\∀ j,j<k->Pl.spell (20+j)≠s.data.toList.map Pl.up) (fun i=>31 - (intOf i).toNat)
  case atStart=>exact ⟨0,Nat.zero_le _,rfl,fun j hj=>by omega⟩
  case round =>
   obtain ⟨k,hk,rfl,hno⟩:=hrel
   by_cases hlt:k<31
   ·have hck:=hcell k hlt
    clear hcell
    cases he:(Pl.spell (20+k) == s.data.toList.map Pl.up)
    ·go_wp2
     go_round
     case rel=>exact ⟨k+1,by omega,by go_num,fun j hj=>by
      by_cases e:j=k
      ·subst e;simpa using he
      ·exact hno j (by omega)⟩
     case measure=>simp [intOf];omega
    ·go_wp2
     refine bodyPost_ret (v:=.agg #[.int .u8 107,.string ⟨(s.data.toList.map Pl.up).toArray⟩,.int .i64 0]) ?_ rfl ⟨?_,?_⟩
     ·simp [results,Tryz.results130,go_sem,c1,c2,z1]
     ·rw [wordTok_hit s.data.toList k hlt hno (by simpa using he)]
     ·exact ((hbb.setCell (Nat.le_refl _) _).setCell (Nat.le_refl _) _).setCell (Nat.le_refl _) _
   ·clear hcell
    go_wp2
    refine bodyPost_ret (v:=.agg #[.int .u8 119,.string s,.int .i64 0]) ?_ rfl ⟨?_,?_⟩
    ·simp [results,Tryz.results130,go_sem,c1,c2,z1]
    ·rw [wordTok_name s.data.toList (fun j hj=>hno j (by omega)) (by simpa using hs)]
    ·exact ((hbb.setCell (Nat.le_refl _) _).setCell (Nat.le_refl _) _).setCell (Nat.le_refl _) _
 ·go_enter Tryz.func130,Tryz.ntmps130
  go_wp2_with fail
  refine (keywords_any _).mono ?_
  rintro e w2 ⟨kb,rfl,hk1,hk2,hcell,hb2⟩
  obtain ⟨c2,f2⟩:=bcell hb2
  have z2:w.heap.size<w2.heap.size:=by have:=hb2.size;simp at this;omega
  have hbb:Below w.heap.size w w2:=((Below.refl _ _).alloc (Nat.le_refl _) _).trans (hb2.mono (by simp))
  go_wp2_with fail
  go_loop [5] (fun i=>∃ k:Nat,k<=31/\i=.int .i64 k) (fun i=>31 - (intOf i).toNat)
  case atStart=>exact ⟨0,Nat.zero_le _,rfl⟩
  case round =>
   obtain ⟨k,hk,rfl⟩:=hrel
   by_cases hlt:k<31
   ·have hck:=hcell k hlt
    clear hcell
    have he:(Pl.spell (20+k)).isEmpty=false:=by simpa using Pl.spell_ne (20+k) (by omega) (by omega)
    go_wp2
    go_round
    case rel=>exact ⟨k+1,by omega,by go_num⟩
    case measure=>simp [intOf];omega
   ·clear hcell
    go_wp2
    refine bodyPost_ret (v:=.agg #[.int .u8 120,.string ⟨#[]⟩,.int .i64 0]) ?_ rfl ⟨?_,?_⟩
    ·simp [results,Tryz.results130,go_sem,c2]
    ·rw [wordTok_long s.data.toList (by simp;omega)]
    ·exact ((hbb.setCell (Nat.le_refl _) _).setCell (Nat.le_refl _) _).setCell (Nat.le_refl _) _
theorem num_more {s:ByteArray}{L:List UInt8}{k:Nat}{m v:Int}{t:Bool}(hlt:k<s.size)(HN:Hid (Pl.numAt L (Pl.from_ s k) m t))(hd:Hid (Pl.isDig s[k]=true))(hv:v=10*m+(s[k].toNat - 48))(hf:v<=9223372036854775807) :
 Pl.numAt L (Pl.from_ s (k+1)) v t:=by
 have h:=HN.out
 rw [Pl.from_lt s k hlt] at h
 subst hv
 exact Pl.numAt_more h hd.out hf
theorem num_great {s:ByteArray}{L:List UInt8}{k:Nat}{m v:Int}{t:Bool}(hlt:k<s.size)(HN:Hid (Pl.numAt L (Pl.from_ s k) m t))(hd:Hid (Pl.isDig s[k]=true))(hv:v=s[k].toNat - 48)(hf:9223372036854775807<10*m+(s[k].toNat - 48)) :
 Pl.numAt L (Pl.from_ s (k+1)) v true:=by
 have h:=HN.out
 rw [Pl.from_lt s k hlt] at h
 subst hv
 exact Pl.numAt_great h hd.out hf
theorem num_end {s:ByteArray}{L:List UInt8}{k:Nat}{m:Int}{t:Bool}(HN:Hid (Pl.numAt L (Pl.from_ s k) m t))(hr:¬ k<s.size\/∃ h:k<s.size,Pl.isDig s[k]=false) :
 Pl.from_ s k=L.dropWhile Pl.isDig/\Pl.numTok (L.takeWhile Pl.isDig)=if t=true then Pl.bad else ⟨2,m,[]⟩:=by
 refine Pl.numAt_end HN.out ?_
 rcases hr with h|⟨h,hd⟩
 ·exact .inl (Pl.from_ge s k (by omega))
 ·exact .inr ⟨_,_,Pl.from_lt s k h,hd⟩
theorem numeral_any (s:ByteArray)(p:Nat)(w:World)(hp:p<=s.size)(hs:s.size<=1048576) :
 Calls Tryz.prog 131 #[.string s,.int .i64 p] w fun e w'=>∃ q:Nat,e=.returned (.tuple #[Pl.refTok (Pl.numTok ((Pl.from_ s p).takeWhile Pl.isDig)),.int .i64 q])/\p<=q/\q<=s.size/\Pl.from_ s q=(Pl.from_ s p).dropWhile Pl.isDig/\Below w.heap.size w w':=by
 go_enter Tryz.func131,Tryz.ntmps131
 go_wp2_with fail
 go_loop [1,6,7] (fun a n b=>∃ (k:Nat) (m:Int) (t:Bool),p<=k/\k<=s.size/\a=.int .i64 k/\n=.int .i64 m/\b=.bool t/\Pl.numAt (Pl.from_ s p) (Pl.from_ s k) m t) (fun a _ _=>s.size - (intOf a).toNat)
 case atStart=>exact ⟨p,0,false,Nat.le_refl _,hp,rfl,rfl,rfl,Pl.numAt_start _⟩
 case round =>
  obtain ⟨k,m,t,hk,hks,rfl,rfl,rfl,hn⟩:=hrel
  have hm0:0<=m:=hn.2.1
  have hm1:m<=9223372036854775807:=hn.2.2.1
  have HN:Hid (Pl.numAt (Pl.from_ s p) (Pl.from_ s k) m t):=hn
  clear hn
  by_cases hlt:k<s.size
  ·cases hd:Pl.isDig s[k]
   ·have he:=num_end HN (.inr ⟨hlt,hd⟩)
    have H1:Hid (Pl.from_ s k=(Pl.from_ s p).dropWhile Pl.isDig):=he.1
    have H2:Hid (Pl.numTok ((Pl.from_ s p).takeWhile Pl.isDig)=if t=true then Pl.bad else ⟨2,m,[]⟩):=he.2
    clear he
    cases t
    all_goals
     go_wp2_with (go_at_call 129;refine (digit_any _ _).mono ?_;rintro e w' ⟨rfl,rfl⟩)
     refine bodyPost_ret (v:=.tuple #[Pl.refTok (Pl.numTok ((Pl.from_ s p).takeWhile Pl.isDig)),.int .i64 k]) ?_ rfl ⟨k,rfl,hk,hks,H1.out,(((Below.refl _ _).alloc (Nat.le_refl _) _))⟩
     rw [H2.out]
     simp [results,Tryz.results131,go_sem,Pl.refTok,Pl.refN,Pl.refB,Pl.refK,Pl.refS,Pl.bad,Pl.spell,Pl.spells]
   ·have hd1:(48:Int)<=s[k].toNat:=by have:=(Pl.isDig_iff _).1 hd;omega
    have hd2:(s[k].toNat:Int)<=57:=by have:=(Pl.isDig_iff _).1 hd;omega
    have HD:Hid (Pl.isDig s[k]=true):=hd
    go_wp2_with (go_at_call 129;refine (digit_any _ _).mono ?_;rintro e w' ⟨rfl,rfl⟩)
    all_goals
     go_round
     case rel=>exact ⟨k+1,_,_,by omega,by omega,by go_num,rfl,rfl,by first|exact num_more hlt HN HD (by omega) (by omega)|exact num_great hlt HN HD (by omega) (by omega)⟩
     case measure=>simp [intOf];omega
  ·have he:=num_end HN (.inl hlt)
   have H1:Hid (Pl.from_ s k=(Pl.from_ s p).dropWhile Pl.isDig):=he.1
   have H2:Hid (Pl.numTok ((Pl.from_ s p).takeWhile Pl.isDig)=if t=true then Pl.bad else ⟨2,m,[]⟩):=he.2
   clear he
   cases t
   all_goals
    go_wp2_with fail
    refine bodyPost_ret (v:=.tuple #[Pl.refTok (Pl.numTok ((Pl.from_ s p).takeWhile Pl.isDig)),.int .i64 k]) ?_ rfl ⟨k,rfl,hk,hks,H1.out,(((Below.refl _ _).alloc (Nat.le_refl _) _))⟩
    rw [H2.out]
    simp [results,Tryz.results131,go_sem,Pl.refTok,Pl.refN,Pl.refB,Pl.refK,Pl.refS,Pl.bad,Pl.spell,Pl.spells]
def litAt (s:ByteArray)(p k:Nat)(acc:List UInt8):Prop:=Pl.litTok [] (Pl.from_ s p)=Pl.litTok acc (Pl.from_ s k)
theorem lit_plain {s:ByteArray}{p k:Nat}{acc:List UInt8}(hlt:k<s.size)(h:litAt s p k acc)(hc:s[k].toNat≠39):litAt s p (k+1) (acc++[s[k]]):=by
 unfold litAt at *
 rw [h,Pl.from_lt s k hlt]
 by_cases h2:k+1<s.size
 ·rw [Pl.from_lt s (k+1) h2,Pl.litTok,if_neg hc]
 ·rw [Pl.from_ge s (k+1) (by omega)]
  simp [Pl.litTok,hc]
theorem lit_two {s:ByteArray}{p k:Nat}{acc:List UInt8}(hlt:k+1<s.size)(h:litAt s p k acc)(hc:s[k].toNat=39)(hd:s[k+1].toNat=39):litAt s p (k+2) (acc++[s[k]]):=by
 unfold litAt at *
 rw [h,Pl.from_lt s k (by omega),Pl.from_lt s (k+1) hlt,Pl.litTok,if_pos hc,if_pos hd]
theorem lit_end {s:ByteArray}{p k:Nat}{acc:List UInt8}(hlt:k<s.size)(h:litAt s p k acc)(hc:s[k].toNat=39)(hd:¬ k+1<s.size\/∃ h:k+1<s.size,s[k+1].toNat≠39) :
 Pl.litTok [] (Pl.from_ s p)=(if 40<acc.length then Pl.bad else ⟨3,0,acc⟩,Pl.from_ s (k+1)):=by
 unfold litAt at h
 rw [h,Pl.from_lt s k hlt]
 rcases hd with hd|⟨h2,hd⟩
 ·rw [Pl.from_ge s (k+1) (by omega),Pl.litTok,if_pos hc]
 ·rw [Pl.from_lt s (k+1) h2,Pl.litTok,if_pos hc,if_neg hd]
theorem lit_none {s:ByteArray}{p k:Nat}{acc:List UInt8}(hlt:¬ k<s.size)(h:litAt s p k acc):Pl.litTok [] (Pl.from_ s p)=(Pl.bad,Pl.from_ s k):=by
 unfold litAt at h
 rw [h,Pl.from_ge s k (by omega),Pl.litTok]
theorem literal_any (s:ByteArray)(p:Nat)(w:World)(hp:p<s.size)(hs:s.size<=1048576) :
 Calls Tryz.prog 132 #[.string s,.int .i64 p] w fun e w'=>∃ q:Nat,e=.returned (.tuple #[Pl.refTok (Pl.litTok [] (Pl.from_ s (p+1))).1,.int .i64 q])/\p<=q/\q<=s.size/\Pl.from_ s q=(Pl.litTok [] (Pl.from_ s (p+1))).2/\Below w.heap.size w w':=by
 have kc:=conv1
 go_enter Tryz.func132,Tryz.ntmps132
 go_wp2_with fail
 go_loopw [6,7] (fun o i wr=>∃ (k:Nat) (acc:List UInt8),p<k/\k<=s.size/\acc.length<=k/\o=.string ⟨acc.toArray⟩/\i=.int .i64 k/\litAt s (p+1) k acc/\wr.cell? ⟨w.heap.size,0,none⟩=some (.int .u8 0)/\wr.cell? ⟨w.heap.size,1,none⟩=some (.string ⟨#[]⟩)/\wr.cell? ⟨w.heap.size,2,none⟩=some (.int .i64 0)/\(∀ o,wr.frozen? ⟨w.heap.size,o,none⟩=false)/\w.heap.size<wr.heap.size/\Below w.heap.size w wr) (fun _ i _=>s.size - (intOf i).toNat)
 case atStart=>exact ⟨p+1,[],by omega,by omega,by simp,rfl,by go_num,rfl,by simp,by simp,by simp,by simp,by simp,(Below.refl _ _).alloc (Nat.le_refl _) _⟩
 case round =>
  obtain ⟨k,acc,hk,hks,hal,rfl,rfl,hl,g0,g1,g2,gf,hz,hb⟩:=hrel
  have HL:Hid (litAt s (p+1) k acc):=hl
  clear hl
  by_cases hlt:k<s.size
  ·by_cases hc:s[k].toNat=39
   ·by_cases h2:k+1<s.size
    ·by_cases hd:s[k+1].toNat=39
     ·have HR:=lit_two h2 HL.out hc hd
      rw [byte39 hc] at HR
      have H2:Hid (litAt s (p+1) (k+2) (acc++[39])):=HR
      clear HR
      have hd':(((s[k+1].toNat:Nat):Int) != 39)=false:=by simp;omega
      go_wp2
      go_roundw
      case rel=>exact ⟨k+2,acc++[39],by omega,by omega,by simp;omega,str_snoc acc 39,by go_num,H2.out,by rw [World.cell?_alloc_past (hn:=hz)];exact g0,by rw [World.cell?_alloc_past (hn:=hz)];exact g1,by rw [World.cell?_alloc_past (hn:=hz)];exact g2,fun o=>by rw [World.frozen?_alloc_past (hn:=hz)];exact gf o,by simp;omega,hb.alloc hb.size _⟩
      case measure=>simp [intOf];omega
     ·have hd':(((s[k+1].toNat:Nat):Int) != 39)=true:=by simp;omega
      have HR:=lit_end hlt HL.out hc (.inr ⟨h2,hd⟩)
      have H2:Hid (Pl.litTok [] (Pl.from_ s (p+1))=(if 40<acc.length then Pl.bad else ⟨3,0,acc⟩,Pl.from_ s (k+1))):=HR
      clear HR
      by_cases ha:40<acc.length
      all_goals
       go_wp2
       refine bodyPost_ret (v:=.tuple #[Pl.refTok (Pl.litTok [] (Pl.from_ s (p+1))).1,.int .i64 (k+1:Nat)]) ?_ rfl ⟨k+1,rfl,by omega,by omega,by rw [H2.out],((hb.setCell (Nat.le_refl _) _).setCell (Nat.le_refl _) _).setCell (Nat.le_refl _) _⟩
       rw [H2.out]
       first|rw [if_pos (by omega)]|rw [if_neg (by omega)]
       simp [results,Tryz.results132,go_sem,Pl.refTok,Pl.refN,Pl.refB,Pl.refK,Pl.refS,Pl.bad,Pl.spell,Pl.spells,g0,g1,g2]
    ·have HR:=lit_end hlt HL.out hc (.inl h2)
     have H2:Hid (Pl.litTok [] (Pl.from_ s (p+1))=(if 40<acc.length then Pl.bad else ⟨3,0,acc⟩,Pl.from_ s (k+1))):=HR
     clear HR
     by_cases ha:40<acc.length
     all_goals
      go_wp2
      refine bodyPost_ret (v:=.tuple #[Pl.refTok (Pl.litTok [] (Pl.from_ s (p+1))).1,.int .i64 (k+1:Nat)]) ?_ rfl ⟨k+1,rfl,by omega,by omega,by rw [H2.out],((hb.setCell (Nat.le_refl _) _).setCell (Nat.le_refl _) _).setCell (Nat.le_refl _) _⟩
      rw [H2.out]
      first|rw [if_pos (by omega)]|rw [if_neg (by omega)]
      simp [results,Tryz.results132,go_sem,Pl.refTok,Pl.refN,Pl.refB,Pl.refK,Pl.refS,Pl.bad,Pl.spell,Pl.spells,g0,g1,g2]
   ·have HR:=lit_plain hlt HL.out hc
    have H2:Hid (litAt s (p+1) (k+1) (acc++[s[k]])):=HR
    clear HR
    go_wp2
    go_roundw
    case rel=>exact ⟨k+1,acc++[s[k]],by omega,by omega,by simp;omega,str_snoc acc _,by go_num,H2.out,by rw [World.cell?_alloc_past (hn:=hz)];exact g0,by rw [World.cell?_alloc_past (hn:=hz)];exact g1,by rw [World.cell?_alloc_past (hn:=hz)];exact g2,fun o=>by rw [World.frozen?_alloc_past (hn:=hz)];exact gf o,by simp;omega,hb.alloc hb.size _⟩
    case measure=>simp [intOf];omega
  ·have HR:=lit_none hlt HL.out
   have H2:Hid (Pl.litTok [] (Pl.from_ s (p+1))=(Pl.bad,Pl.from_ s k)):=HR
   clear HR
   go_wp2
   refine bodyPost_ret (v:=.tuple #[Pl.refTok (Pl.litTok [] (Pl.from_ s (p+1))).1,.int .i64 k]) ?_ rfl ⟨k,rfl,by omega,by omega,by rw [H2.out],((hb.setCell (Nat.le_refl _) _).setCell (Nat.le_refl _) _).setCell (Nat.le_refl _) _⟩
   rw [H2.out]
   simp [results,Tryz.results132,go_sem,Pl.refTok,Pl.refN,Pl.refB,Pl.refK,Pl.refS,Pl.bad,Pl.spell,Pl.spells,g0,g1,g2]
theorem look_blank {s:ByteArray}{k:Nat}{L:List UInt8}(hlt:k<s.size)(h:(Pl.from_ s k).dropWhile Pl.isBlank=L)(hb:Pl.isBlank s[k]=true):(Pl.from_ s (k+1)).dropWhile Pl.isBlank=L:=by
 rw [Pl.from_lt s k hlt,List.dropWhile_cons_of_pos hb] at h;exact h
theorem look_stop {s:ByteArray}{k:Nat}{L:List UInt8}(hlt:k<s.size)(h:(Pl.from_ s k).dropWhile Pl.isBlank=L)(hb:Pl.isBlank s[k]=false):L=Pl.from_ s k:=by
 rw [<- h,Pl.from_lt s k hlt,List.dropWhile_cons_of_neg (by simp [hb])]
theorem look_word {s:ByteArray}{p k e:Nat}(hlt:k<s.size)(HE:Hid ((Pl.from_ s p).dropWhile Pl.isBlank=Pl.from_ s k))(hl:Pl.isLet s[k]=true)(h:(s.extract k e).data.toList=(Pl.from_ s k).takeWhile Pl.isLD/\Pl.from_ s e=(Pl.from_ s k).dropWhile Pl.isLD) :
 Pl.look (Pl.from_ s p)=(Pl.wordTok (s.extract k e).data.toList,Pl.from_ s e):=by
 unfold Pl.look
 rw [HE.out,h.1,h.2]
 rw [Pl.from_lt s k hlt]
 simp only [Pl.headTok,hl,if_true]
theorem look_num {s:ByteArray}{p k:Nat}(hlt:k<s.size)(HE:Hid ((Pl.from_ s p).dropWhile Pl.isBlank=Pl.from_ s k))(hl:Pl.isLet s[k]=false)(hd:Pl.isDig s[k]=true) :
 Pl.look (Pl.from_ s p)=(Pl.numTok ((Pl.from_ s k).takeWhile Pl.isDig),(Pl.from_ s k).dropWhile Pl.isDig):=by
 unfold Pl.look
 rw [HE.out]
 rw [Pl.from_lt s k hlt]
 simp only [Pl.headTok,hl,hd,if_true,if_false,Bool.false_eq_true]
theorem look_lit {s:ByteArray}{p k:Nat}(hlt:k<s.size)(HE:Hid ((Pl.from_ s p).dropWhile Pl.isBlank=Pl.from_ s k))(hl:Pl.isLet s[k]=false)(hd:Pl.isDig s[k]=false)(hq:s[k].toNat=39) :
 Pl.look (Pl.from_ s p)=Pl.litTok [] (Pl.from_ s (k+1)):=by
 unfold Pl.look
 rw [HE.out]
 rw [Pl.from_lt s k hlt]
 simp only [Pl.headTok,hl,hd,hq,if_true,if_false,Bool.false_eq_true]
theorem look_sign2 {s:ByteArray}{p k:Nat}(h2:k+1<s.size)(HE:Hid ((Pl.from_ s p).dropWhile Pl.isBlank=Pl.from_ s k))(hl:Pl.isLet s[k]=false)(hd:Pl.isDig s[k]=false)(hq:¬ s[k].toNat=39)
 (ht:Pl.twoSign s[k].toNat s[k+1].toNat≠99):Pl.look (Pl.from_ s p)=(⟨Pl.twoSign s[k].toNat s[k+1].toNat,0,[]⟩,Pl.from_ s (k+2)):=by
 unfold Pl.look
 rw [HE.out]
 rw [Pl.from_lt s k (by omega),Pl.from_lt s (k+1) h2]
 simp only [Pl.headTok,hl,hd,hq,if_false,Bool.false_eq_true,Pl.signTok,ht]
theorem look_sign1 {s:ByteArray}{p k:Nat}(hlt:k<s.size)(HE:Hid ((Pl.from_ s p).dropWhile Pl.isBlank=Pl.from_ s k))(hl:Pl.isLet s[k]=false)(hd:Pl.isDig s[k]=false)(hq:¬ s[k].toNat=39)
 (ht:∀ h:k+1<s.size,Pl.twoSign s[k].toNat s[k+1].toNat=99):Pl.look (Pl.from_ s p)=(⟨Pl.oneSign s[k].toNat,0,[]⟩,Pl.from_ s (k+1)):=by
 unfold Pl.look
 rw [HE.out]
 rw [Pl.from_lt s k hlt]
 by_cases h2:k+1<s.size
 ·rw [Pl.from_lt s (k+1) h2]
  simp only [Pl.headTok,hl,hd,hq,if_false,Bool.false_eq_true,Pl.signTok,ht h2,if_true]
 ·rw [Pl.from_ge s (k+1) (by omega)]
  simp only [Pl.headTok,hl,hd,hq,if_false,Bool.false_eq_true,Pl.signTok]
def ones:List UInt8:=[40,41,44,46,59,61,60,62,43,45,42,47,37]
theorem ones_at (i:Nat)(h:i<13):((({ data:=#[40,41,44,46,59,61,60,62,43,45,42,47,37] }:ByteArray)[i]'h).toNat:Nat)=(ones.getD i 0).toNat:=by
 have:∀ i:Fin 13,((({ data:=#[40,41,44,46,59,61,60,62,43,45,42,47,37] }:ByteArray)[i.1]'i.2).toNat:Nat)=(ones.getD i.1 0).toNat:=by decide
 exact this ⟨i,h⟩
theorem ones_hit (i:Nat)(h:i<13)(c:UInt8)(hc:(ones.getD i 0).toNat=c.toNat):Pl.refTok ⟨Pl.oneSign c.toNat,0,[]⟩=.agg #[.int .u8 115,.string ⟨[c].toArray⟩,.int .i64 0]:=by
 have hc':ones.getD i 0=c:=UInt8.toNat_inj.1 hc
 have:∀ i:Fin 13,Pl.refK (Pl.oneSign (ones.getD i.1 0).toNat)=115/\Pl.refS ⟨Pl.oneSign (ones.getD i.1 0).toNat,0,[]⟩=[ones.getD i.1 0]/\Pl.oneSign (ones.getD i.1 0).toNat≠2:=by decide
 have h3:=this ⟨i,h⟩
 simp only [hc'] at h3
 unfold Pl.refTok Pl.refB Pl.refN
 rw [h3.1,h3.2.1,if_neg h3.2.2]
theorem ones_miss (c:UInt8)(h:∀ i,i<13->(ones.getD i 0).toNat≠c.toNat):Pl.oneSign c.toNat=99:=by
 have h0:=h 0 (by omega);have h1:=h 1 (by omega);have h2:=h 2 (by omega);have h3:=h 3 (by omega);have h4:=h 4 (by omega);have h5:=h 5 (by omega);have h6:=h 6 (by omega)
 have h7:=h 7 (by omega);have h8:=h 8 (by omega);have h9:=h 9 (by omega);have h10:=h 10 (by omega);have h11:=h 11 (by omega);have h12:=h 12 (by omega)
 simp [ones] at h0 h1 h2 h3 h4 h5 h6 h7 h8 h9 h10 h11 h12
 unfold Pl.oneSign
 repeat rw [if_neg (by omega)]
theorem twos_hit (c d:UInt8)(h:(c.toNat=60/\d.toNat=62)\/(c.toNat=60/\d.toNat=61)\/(c.toNat=62/\d.toNat=61)) :
 Pl.twoSign c.toNat d.toNat≠99/\Pl.refTok ⟨Pl.twoSign c.toNat d.toNat,0,[]⟩=.agg #[.int .u8 115,.string ⟨[c,d].toArray⟩,.int .i64 0]:=by
 rcases h with ⟨h1,h2⟩|⟨h1,h2⟩|⟨h1,h2⟩
 ·have e1:c=60:=UInt8.toNat_inj.1 h1
  have e2:d=62:=UInt8.toNat_inj.1 h2
  subst e1 e2;exact ⟨by decide,rfl⟩
 ·have e1:c=60:=UInt8.toNat_inj.1 h1
  have e2:d=61:=UInt8.toNat_inj.1 h2
  subst e1 e2;exact ⟨by decide,rfl⟩
 ·have e1:c=62:=UInt8.toNat_inj.1 h1
  have e2:d=61:=UInt8.toNat_inj.1 h2
  subst e1 e2;exact ⟨by decide,rfl⟩
theorem twos_miss (c d:UInt8)(h:¬ ((c.toNat=60/\d.toNat=62)\/(c.toNat=60/\d.toNat=61)\/(c.toNat=62/\d.toNat=61))):Pl.twoSign c.toNat d.toNat=99:=by
 unfold Pl.twoSign
 rw [if_neg (by omega),if_neg (by omega),if_neg (by omega)]
theorem look_any (s:ByteArray)(p:Nat)(w:World)(hp:p<=s.size)(hs:s.size<=1048576) :
 Calls Tryz.prog 77 #[.string s,.int .i64 p] w fun e w'=>∃ q:Nat,e=.returned (.tuple #[Pl.refTok (Pl.look (Pl.from_ s p)).1,.int .i64 q])/\p<=q/\q<=s.size/\Pl.from_ s q=(Pl.look (Pl.from_ s p)).2/\Below w.heap.size w w':=by
 go_enter Tryz.func77,Tryz.ntmps77
 go_wp2_with fail
 go_loop [1] (fun a=>∃ k:Nat,p<=k/\k<=s.size/\a=.int .i64 k/\Hid ((Pl.from_ s k).dropWhile Pl.isBlank=(Pl.from_ s p).dropWhile Pl.isBlank)) (fun a=>s.size - (intOf a).toNat)
 case atStart=>exact ⟨p,Nat.le_refl _,hp,rfl,rfl⟩
 case round =>
  obtain ⟨k,hk,hks,rfl,HK⟩:=hrel
  by_cases hlt:k<s.size
  ·cases b1:(((s[k].toNat:Nat):Int) == 32) <;> cases b2:(((s[k].toNat:Nat):Int) == 9) <;> cases b3:(((s[k].toNat:Nat):Int) == 10)
   case false.false.false =>
    have hb:Pl.isBlank s[k]=false:=by unfold Pl.isBlank;simp at b1 b2 b3 ⊢;omega
    have HE:Hid ((Pl.from_ s p).dropWhile Pl.isBlank=Pl.from_ s k):=look_stop hlt HK.out hb
    clear hb HK
    cases hl:Pl.isLet s[k]
    case true =>
     have HL:Hid (Pl.isLet s[k]=true):=hl
     go_wp2_with (first|(go_at_call 128;refine (letter_any _ _).mono ?_;rintro e w' ⟨rfl,rfl⟩)|(go_at_call 129;refine (digit_any _ _).mono ?_;rintro e w' ⟨rfl,rfl⟩))
     clear b1 b2 b3 hl
     go_loop [9] (fun a=>∃ e:Nat,k<=e/\e<=s.size/\a=.int .i64 e/\Hid (spanAt Pl.isLD s k e)) (fun a=>s.size - (intOf a).toNat)
     case atStart=>exact ⟨k,Nat.le_refl _,hks,rfl,span_start _ _ _⟩
     case round =>
      obtain ⟨e,hke,hes,rfl,HS⟩:=hrel
      by_cases hel:e<s.size
      ·cases ho:Pl.isLD s[e]
       ·have HQ:Hid (Pl.look (Pl.from_ s p)=(Pl.wordTok (s.extract k e).data.toList,Pl.from_ s e)):=look_word hlt HE HL.out (span_end HS.out (.inr ⟨hel,ho⟩))
        have h1:Pl.isLet s[e]=false:=by simp [Pl.isLD] at ho;exact ho.1
        have h2:Pl.isDig s[e]=false:=by simp [Pl.isLD] at ho;exact ho.2
        clear ho
        go_wp2_with (first|(go_at_call 128;refine (letter_any _ _).mono ?_;rintro e w' ⟨rfl,rfl⟩)|(go_at_call 129;refine (digit_any _ _).mono ?_;rintro e w' ⟨rfl,rfl⟩))
        refine (word_any _ _).mono ?_
        rintro e1 w1 ⟨rfl,hb1⟩
        obtain ⟨c1,f1⟩:=bcell hb1
        have z1:w.heap.size<w1.heap.size:=by have:=hb1.size;simp at this;omega
        have hbb:Below w.heap.size w w1:=((Below.refl _ _).alloc (Nat.le_refl _) _).trans (hb1.mono (by simp))
        rw [Pl.refTok_eq]
        go_wp2_with fail
        refine bodyPost_ret (v:=.tuple #[Pl.refTok (Pl.wordTok (s.extract k e).data.toList),.int .i64 e]) ?_ rfl ⟨e,by rw [HQ.out],by omega,by omega,by rw [HQ.out],?_⟩
        ·simp [results,Tryz.results77,go_sem,c1,z1,Pl.refTok_eq]
        ·exact (below_box hbb _ _ _).alloc (by simp;omega) _
       ·cases h1:Pl.isLet s[e]
        all_goals
         cases h2:Pl.isDig s[e]
        all_goals
         try (exfalso;simp [Pl.isLD,h1,h2] at ho;done)
        all_goals
         have HR:Hid (spanAt Pl.isLD s k (e+1)):=span_more hke hel HS.out ho
         clear HS ho
         go_wp2_with (first|(go_at_call 128;refine (letter_any _ _).mono ?_;rintro e w' ⟨rfl,rfl⟩)|(go_at_call 129;refine (digit_any _ _).mono ?_;rintro e w' ⟨rfl,rfl⟩))
         go_round
         case rel=>exact ⟨e+1,by omega,by omega,by go_num,HR⟩
         case measure=>simp [intOf];omega
      ·have HQ:Hid (Pl.look (Pl.from_ s p)=(Pl.wordTok (s.extract k e).data.toList,Pl.from_ s e)):=look_word hlt HE HL.out (span_end HS.out (.inl hel))
       go_wp2_with fail
       refine (word_any _ _).mono ?_
       rintro e1 w1 ⟨rfl,hb1⟩
       obtain ⟨c1,f1⟩:=bcell hb1
       have z1:w.heap.size<w1.heap.size:=by have:=hb1.size;simp at this;omega
       have hbb:Below w.heap.size w w1:=((Below.refl _ _).alloc (Nat.le_refl _) _).trans (hb1.mono (by simp))
       rw [Pl.refTok_eq]
       go_wp2_with fail
       refine bodyPost_ret (v:=.tuple #[Pl.refTok (Pl.wordTok (s.extract k e).data.toList),.int .i64 e]) ?_ rfl ⟨e,by rw [HQ.out],by omega,by omega,by rw [HQ.out],?_⟩
       ·simp [results,Tryz.results77,go_sem,c1,z1,Pl.refTok_eq]
       ·exact (below_box hbb _ _ _).alloc (by simp;omega) _
    case false =>
     cases hd:Pl.isDig s[k]
     case true =>
      have HQ:Hid (Pl.look (Pl.from_ s p)=(Pl.numTok ((Pl.from_ s k).takeWhile Pl.isDig),(Pl.from_ s k).dropWhile Pl.isDig)):=look_num hlt HE hl hd
      go_wp2_with (first|(go_at_call 128;refine (letter_any _ _).mono ?_;rintro e w' ⟨rfl,rfl⟩)|(go_at_call 129;refine (digit_any _ _).mono ?_;rintro e w' ⟨rfl,rfl⟩))
      refine (numeral_any s k _ hks hs).mono ?_
      rintro e1 w1 ⟨q,rfl,hkq,hqs,hq,hb1⟩
      have HF:Hid (Pl.from_ s q=(Pl.from_ s k).dropWhile Pl.isDig):=hq
      clear hq
      obtain ⟨c1,f1⟩:=bcell hb1
      have z1:w.heap.size<w1.heap.size:=by have:=hb1.size;simp at this;omega
      have hbb:Below w.heap.size w w1:=((Below.refl _ _).alloc (Nat.le_refl _) _).trans (hb1.mono (by simp))
      rw [Pl.refTok_eq]
      go_wp2_with fail
      refine bodyPost_ret (v:=.tuple #[Pl.refTok (Pl.numTok ((Pl.from_ s k).takeWhile Pl.isDig)),.int .i64 q]) ?_ rfl ⟨q,by rw [HQ.out],by omega,by omega,by rw [HQ.out,HF.out],?_⟩
      ·simp [results,Tryz.results77,go_sem,c1,z1,Pl.refTok_eq]
      ·exact below_box hbb _ _ _
     case false =>
      by_cases hq:s[k].toNat=39
      ·have hq':(((s[k].toNat:Nat):Int) == 39)=true:=by simp;omega
       have HQ:Hid (Pl.look (Pl.from_ s p)=Pl.litTok [] (Pl.from_ s (k+1))):=look_lit hlt HE hl hd hq
       clear hq
       go_wp2_with (first|(go_at_call 128;refine (letter_any _ _).mono ?_;rintro e w' ⟨rfl,rfl⟩)|(go_at_call 129;refine (digit_any _ _).mono ?_;rintro e w' ⟨rfl,rfl⟩))
       refine (literal_any s k _ hlt hs).mono ?_
       rintro e1 w1 ⟨q,rfl,hkq,hqs,hq,hb1⟩
       have HF:Hid (Pl.from_ s q=(Pl.litTok [] (Pl.from_ s (k+1))).2):=hq
       clear hq
       obtain ⟨c1,f1⟩:=bcell hb1
       have z1:w.heap.size<w1.heap.size:=by have:=hb1.size;simp at this;omega
       have hbb:Below w.heap.size w w1:=((Below.refl _ _).alloc (Nat.le_refl _) _).trans (hb1.mono (by simp))
       rw [Pl.refTok_eq]
       go_wp2_with fail
       refine bodyPost_ret (v:=.tuple #[Pl.refTok (Pl.litTok [] (Pl.from_ s (k+1))).1,.int .i64 q]) ?_ rfl ⟨q,by rw [HQ.out],by omega,by omega,by rw [HQ.out,HF.out],?_⟩
       ·simp [results,Tryz.results77,go_sem,c1,z1,Pl.refTok_eq]
       ·exact below_box hbb _ _ _
      ·have hq':(((s[k].toNat:Nat):Int) == 39)=false:=by simp;omega
       by_cases h2:k+1<s.size
       ·by_cases ht:(s[k].toNat=60/\s[k+1].toNat=62)\/(s[k].toNat=60/\s[k+1].toNat=61)\/(s[k].toNat=62/\s[k+1].toNat=61)
        ·have hh:=twos_hit _ _ ht
         have HQ:Hid (Pl.look (Pl.from_ s p)=(⟨Pl.twoSign s[k].toNat s[k+1].toNat,0,[]⟩,Pl.from_ s (k+2))):=look_sign2 h2 HE hl hd hq hh.1
         have HV:Hid (Pl.refTok ⟨Pl.twoSign s[k].toNat s[k+1].toNat,0,[]⟩=.agg #[.int .u8 115,.string ⟨[s[k],s[k+1]].toArray⟩,.int .i64 0]):=hh.2
         clear hh
         go_wp2_with (first|(go_at_call 128;refine (letter_any _ _).mono ?_;rintro e w' ⟨rfl,rfl⟩)|(go_at_call 129;refine (digit_any _ _).mono ?_;rintro e w' ⟨rfl,rfl⟩))
         all_goals
          refine bodyPost_ret (v:=.tuple #[Pl.refTok ⟨Pl.twoSign s[k].toNat s[k+1].toNat,0,[]⟩,.int .i64 (k+2:Nat)]) ?_ rfl ⟨k+2,by rw [HQ.out],by omega,by omega,by rw [HQ.out],(Below.refl _ _).alloc (Nat.le_refl _) _⟩
          rw [HV.out,<- ext_two s k h2]
          simp [results,Tryz.results77,go_sem]
        ·have HQ:Hid (Pl.look (Pl.from_ s p)=(⟨Pl.oneSign s[k].toNat,0,[]⟩,Pl.from_ s (k+1))):=look_sign1 hlt HE hl hd hq (fun _=>twos_miss _ _ ht)
         go_wp2_with (first|(go_at_call 128;refine (letter_any _ _).mono ?_;rintro e w' ⟨rfl,rfl⟩)|(go_at_call 129;refine (digit_any _ _).mono ?_;rintro e w' ⟨rfl,rfl⟩))
         all_goals try (exfalso;have hor:(((s[k+1].toNat:Nat):Int) == 62)=true\/(((s[k+1].toNat:Nat):Int) == 61)=true:=by assumption
                        simp at hor;omega)
         all_goals clear b1 b2 b3 hq hq' hl hd ht
         all_goals
          go_loop [14] (fun a=>∃ i:Nat,i<=13/\a=.int .i64 i/\Hid (∀ j,j<i->(ones.getD j 0).toNat≠s[k].toNat)) (fun a=>13 - (intOf a).toNat)
          case atStart=>exact ⟨0,Nat.zero_le _,rfl,fun j hj=>by omega⟩
          case round =>
           obtain ⟨i,hi,rfl,HN⟩:=hrel
           by_cases hil:i<13
           ·have ha:=ones_at i hil
            cases hx:((((({ data:=#[40,41,44,46,59,61,60,62,43,45,42,47,37] }:ByteArray)[i]'hil).toNat:Nat):Int) == (s[k].toNat:Int))
            ·have HM:Hid (∀ j,j<i+1->(ones.getD j 0).toNat≠s[k].toNat):=fun j hj=>by
              by_cases e:j=i
              ·subst e;rw [<- ha];simp at hx;omega
              ·exact HN.out j (by omega)
             clear ha HN
             go_wp2_with fail
             go_round
             case rel=>exact ⟨i+1,by omega,by go_num,HM⟩
             case measure=>simp [intOf];omega
            ·have HV:Hid (Pl.refTok ⟨Pl.oneSign s[k].toNat,0,[]⟩=.agg #[.int .u8 115,.string ⟨[s[k]].toArray⟩,.int .i64 0]):=ones_hit i hil _ (by rw [<- ha];simp at hx;omega)
             clear ha HN
             go_wp2_with fail
             refine bodyPost_ret (v:=.tuple #[Pl.refTok ⟨Pl.oneSign s[k].toNat,0,[]⟩,.int .i64 (k+1:Nat)]) ?_ rfl ⟨k+1,by rw [HQ.out],by omega,by omega,by rw [HQ.out],(Below.refl _ _).alloc (Nat.le_refl _) _⟩
             rw [HV.out,<- ext_one s k hlt]
             simp [results,Tryz.results77,go_sem]
           ·have HV:Hid (Pl.refTok ⟨Pl.oneSign s[k].toNat,0,[]⟩=.agg #[.int .u8 120,.string ⟨#[]⟩,.int .i64 0]):=by
             show Pl.refTok ⟨Pl.oneSign s[k].toNat,0,[]⟩=_
             rw [ones_miss _ (fun j hj=>HN.out j (by omega))];rfl
            clear HN
            go_wp2_with fail
            refine bodyPost_ret (v:=.tuple #[Pl.refTok ⟨Pl.oneSign s[k].toNat,0,[]⟩,.int .i64 (k+1:Nat)]) ?_ rfl ⟨k+1,by rw [HQ.out],by omega,by omega,by rw [HQ.out],(Below.refl _ _).alloc (Nat.le_refl _) _⟩
            rw [HV.out]
            simp [results,Tryz.results77,go_sem]
       ·have HQ:Hid (Pl.look (Pl.from_ s p)=(⟨Pl.oneSign s[k].toNat,0,[]⟩,Pl.from_ s (k+1))):=look_sign1 hlt HE hl hd hq (fun h=>absurd h h2)
        go_wp2_with (first|(go_at_call 128;refine (letter_any _ _).mono ?_;rintro e w' ⟨rfl,rfl⟩)|(go_at_call 129;refine (digit_any _ _).mono ?_;rintro e w' ⟨rfl,rfl⟩))
        clear b1 b2 b3 hq hq' hl hd
        go_loop [14] (fun a=>∃ i:Nat,i<=13/\a=.int .i64 i/\Hid (∀ j,j<i->(ones.getD j 0).toNat≠s[k].toNat)) (fun a=>13 - (intOf a).toNat)
        case atStart=>exact ⟨0,Nat.zero_le _,rfl,fun j hj=>by omega⟩
        case round =>
         obtain ⟨i,hi,rfl,HN⟩:=hrel
         by_cases hil:i<13
         ·have ha:=ones_at i hil
          cases hx:((((({ data:=#[40,41,44,46,59,61,60,62,43,45,42,47,37] }:ByteArray)[i]'hil).toNat:Nat):Int) == (s[k].toNat:Int))
          ·have HM:Hid (∀ j,j<i+1->(ones.getD j 0).toNat≠s[k].toNat):=fun j hj=>by
            by_cases e:j=i
            ·subst e;rw [<- ha];simp at hx;omega
            ·exact HN.out j (by omega)
           clear ha HN
           go_wp2_with fail
           go_round
           case rel=>exact ⟨i+1,by omega,by go_num,HM⟩
           case measure=>simp [intOf];omega
          ·have HV:Hid (Pl.refTok ⟨Pl.oneSign s[k].toNat,0,[]⟩=.agg #[.int .u8 115,.string ⟨[s[k]].toArray⟩,.int .i64 0]):=ones_hit i hil _ (by rw [<- ha];simp at hx;omega)
           clear ha HN
           go_wp2_with fail
           refine bodyPost_ret (v:=.tuple #[Pl.refTok ⟨Pl.oneSign s[k].toNat,0,[]⟩,.int .i64 (k+1:Nat)]) ?_ rfl ⟨k+1,by rw [HQ.out],by omega,by omega,by rw [HQ.out],(Below.refl _ _).alloc (Nat.le_refl _) _⟩
           rw [HV.out,<- ext_one s k hlt]
           simp [results,Tryz.results77,go_sem]
         ·have HV:Hid (Pl.refTok ⟨Pl.oneSign s[k].toNat,0,[]⟩=.agg #[.int .u8 120,.string ⟨#[]⟩,.int .i64 0]):=by
           show Pl.refTok ⟨Pl.oneSign s[k].toNat,0,[]⟩=_
           rw [ones_miss _ (fun j hj=>HN.out j (by omega))];rfl
          clear HN
          go_wp2_with fail
          refine bodyPost_ret (v:=.tuple #[Pl.refTok ⟨Pl.oneSign s[k].toNat,0,[]⟩,.int .i64 (k+1:Nat)]) ?_ rfl ⟨k+1,by rw [HQ.out],by omega,by omega,by rw [HQ.out],(Below.refl _ _).alloc (Nat.le_refl _) _⟩
          rw [HV.out]
          simp [results,Tryz.results77,go_sem]
   all_goals
    have HR:Hid ((Pl.from_ s (k+1)).dropWhile Pl.isBlank=(Pl.from_ s p).dropWhile Pl.isBlank):=look_blank hlt HK.out (by unfold Pl.isBlank;simp at b1 b2 b3 ⊢;omega)
    clear HK
    try (exfalso;simp at b1 b2 b3;omega)
   all_goals
    go_wp2_with fail
    go_round
    case rel=>exact ⟨k+1,by omega,by omega,by go_num,HR⟩
    case measure=>simp [intOf];omega
  ·go_wp2_with fail
   refine bodyPost_ret (v:=.tuple #[.agg #[.int .u8 101,.string ⟨#[]⟩,.int .i64 0],.int .i64 k]) ?_ rfl ⟨k,?_,by omega,by omega,?_,(Below.refl _ _).alloc (Nat.le_refl _) _⟩
   ·simp [results,Tryz.results77,go_sem]
   ·unfold Pl.look;rw [<- HK.out,Pl.from_ge s k (by omega)];rfl
   ·unfold Pl.look;rw [<- HK.out,Pl.from_ge s k (by omega)];rfl
end Go.Proofs.YtojdpjpldokjmaaGreatDoor
