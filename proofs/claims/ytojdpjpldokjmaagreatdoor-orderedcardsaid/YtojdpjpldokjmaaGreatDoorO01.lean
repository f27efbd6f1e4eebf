/- The leaves of the lexers: bytes that are letters, digits. -/
import Derived.Test.YtojdpjpldokjmaaGreatDoorProg
import Derived.Test.YtojdpjpldokjmaaGreatDoorO00
import Derived.WalkKit
import Derived.WalkSpells
import Derived.WalkLawsBesides
set_option maxHeartbeats 60000000
set_option maxRecDepth 100000
namespace Go.Proofs.YtojdpjpldokjmaaGreatDoor
open Go.RowKit
theorem ret_bool {a b:Bool} (h:a = b):Ending.returned (.bool a) = .returned (.bool b) := by rw [h]
theorem ret_str {a b:ByteArray} (h:a = b):Ending.returned (.string a) = .returned (.string b) := by rw [h]
theorem ret_int {k:IntKind} {a b:Int} (h:a = b):Ending.returned (.int k a) = .returned (.int k b) := by rw [h]
theorem isLetter_any (c:UInt8) (w:World) :
   Calls Tryz.prog 143 #[.int .u8 c.toNat] w fun e w' => e = .returned (.bool (Pl.isLet c)) /\ w' = w := by
 go_enter Tryz.func143,Tryz.ntmps143
 go_wp2
 all_goals
   go_ret
   refine ⟨ret_bool ?_,rfl⟩
   rw [Bool.eq_iff_iff,Pl.isLet_iff]
   simp
   omega
theorem isDigit_any (c:UInt8) (w:World) :
   Calls Tryz.prog 145 #[.int .u8 c.toNat] w fun e w' => e = .returned (.bool (Pl.isDig c)) /\ w' = w := by
 go_enter Tryz.func145,Tryz.ntmps145
 go_wp2
 all_goals
   go_ret
   refine ⟨ret_bool ?_,rfl⟩
   rw [Bool.eq_iff_iff,Pl.isDig_iff]
   simp
   omega
theorem isLetterOrDigit_any (c:UInt8) (w:World) :
   Calls Tryz.prog 201 #[.int .u8 c.toNat] w fun e w' => e = .returned (.bool (Pl.isLD c)) /\ w' = w := by
 cases hl:Pl.isLet c
 all_goals
   go_enter Tryz.func201,Tryz.ntmps201
   go_wp2_with (first | (go_at_call 143; refine (isLetter_any _ _).mono ?_; rintro e w' ⟨rfl,rfl⟩) | (go_at_call 145; refine (isDigit_any _ _).mono ?_; rintro e w' ⟨rfl,rfl⟩))
   go_ret
   exact ⟨ret_bool (by simp [Pl.isLD,hl]),rfl⟩
theorem hide {p:Prop} (h:p):Hid p := h
theorem unhide {p:Prop} (h:Hid p):p := h
structure Keeps (rb:Nat) (w w':World):Prop where
 os:w'.os = w.os
 tape:w'.tape = w.tape
 output:w'.output = w.output
 size:w.heap.size <= w'.heap.size
 block:∀ k,k < w.heap.size -> k ≠ rb -> w'.heap[k]? = w.heap[k]?
theorem Keeps.refl (rb:Nat) (w:World):Keeps rb w w := ⟨rfl,rfl,rfl,Nat.le_refl _,fun _ _ _=>rfl⟩
theorem Keeps.trans {rb:Nat} {a b c:World} (h:Keeps rb a b) (k:Keeps rb b c):Keeps rb a c :=
 ⟨k.os.trans h.os,k.tape.trans h.tape,k.output.trans h.output,Nat.le_trans h.size k.size,fun i hi hne=>(k.block i (Nat.lt_of_lt_of_le hi h.size) hne).trans (h.block i hi hne)⟩
theorem Keeps.below {rb:Nat} {a b c:World} (h:Keeps rb a b) (k:Below b.heap.size b c):Keeps rb a c :=
 h.trans ⟨k.os,k.tape,k.output,k.size,fun i hi _=>k.block i hi⟩
theorem Keeps.set {rb:Nat} {a b:World} (h:Keeps rb a b) (o:Nat) (v:Value):Keeps rb a (b.setCell ⟨rb,o,none⟩ v) :=
 h.trans ⟨rfl,rfl,rfl,by simp [World.setCell],fun i _ hne=>Below.heap_setCell _ _ _ _ hne⟩
theorem Keeps.alloc {rb:Nat} {a b:World} (h:Keeps rb a b) (o:Obj):Keeps rb a (b.alloc o) :=
 h.trans ⟨rfl,rfl,rfl,by simp,fun i hi _=>Below.heap_alloc _ _ _ hi⟩
theorem Keeps.drew {rb:Nat} {a b:World} (h:Keeps rb a b):Keeps rb a b.drew := ⟨h.os,h.tape,h.output,h.size,h.block⟩
theorem Keeps.setNew {rb:Nat} {a b:World} (h:Keeps rb a b) {p:Addr} (hp:a.heap.size <= p.block) (v:Value):Keeps rb a (b.setCell p v) :=
 ⟨h.os,h.tape,h.output,by simp [World.setCell]; exact h.size,fun i hi hne=>(Below.heap_setCell _ _ _ _ (by omega)).trans (h.block i hi hne)⟩
theorem Keeps.blk {rb:Nat} {w w':World} (h:Keeps rb w w') {k:Nat} {o:Obj} (hne:k ≠ rb) (hk:w.heap[k]? = some o):w'.heap[k]? = some o := by
 have hlt:k < w.heap.size := by
   rcases Nat.lt_or_ge k w.heap.size with h1 | h1
   · exact h1
   · rw [Array.getElem?_eq_none h1] at hk; cases hk
 rw [h.block k hlt hne,hk]
theorem below_blk {B:Nat} {w w':World} (h:Below B w w') {k:Nat} {o:Obj} (hlt:k < B) (hk:w.heap[k]? = some o):w'.heap[k]? = some o := by
 rw [h.block k hlt,hk]
theorem lt_of_blk {w:World} {k:Nat} {o:Obj} (hk:w.heap[k]? = some o):k < w.heap.size := by
 rcases Nat.lt_or_ge k w.heap.size with h1 | h1
 · exact h1
 · rw [Array.getElem?_eq_none h1] at hk; cases hk
theorem blk_cell {w:World} {k:Nat} {C:Array Value} {t:TypeId} (h:w.heap[k]? = some (.cells C t)) (o:Nat):w.cell? ⟨k,o,none⟩ = C[o]? := by
 unfold World.cell?; rw [h]; simp
theorem blk_frozen {w:World} {k:Nat} {C:Array Value} {t:TypeId} (h:w.heap[k]? = some (.cells C t)) (o:Nat):w.frozen? ⟨k,o,none⟩ = false := by
 unfold World.frozen?; rw [h]; simp
theorem blk_set {w:World} {k:Nat} {C:Array Value} {t:TypeId} (h:w.heap[k]? = some (.cells C t)) (o:Nat) (v:Value):(w.setCell ⟨k,o,none⟩ v).heap[k]? = some (.cells (C.setIfInBounds o v) t) := by
 unfold World.setCell
 simp only [Array.getElem?_modify,h,if_true,Option.map_some]
 rfl
theorem blk_set_ne {w:World} {k j:Nat} {X:Obj} (h:w.heap[k]? = some X) (hne:k ≠ j) (o:Nat) (v:Value):(w.setCell ⟨j,o,none⟩ v).heap[k]? = some X := by
 rw [Below.heap_setCell _ _ _ _ hne,h]
theorem blk_alloc {w:World} {k:Nat} {X:Obj} (h:w.heap[k]? = some X) (o:Obj):(w.alloc o).heap[k]? = some X := by
 rw [Below.heap_alloc _ _ _ (lt_of_blk h),h]
theorem blk_drew {w:World} {k:Nat} {X:Obj} (h:w.heap[k]? = some X):w.drew.heap[k]? = some X := h
theorem blk_new (w:World) (o:Obj):(w.alloc o).heap[w.heap.size]? = some o := by
 show (w.heap.push o)[w.heap.size]? = _
 rw [Array.getElem?_push,if_pos rfl]
theorem take_snoc (s:ByteArray) (k:Nat) (h:k < s.size):s.data.toList.take (k + 1) = s.data.toList.take k ++ [s[k]] := by
 rw [List.take_succ_eq_append_getElem (by simpa using h)]; rfl
theorem bcell {W w1:World} (hb:Below W.heap.size W w1):(∀ b o,b < W.heap.size -> w1.cell? ⟨b,o,none⟩ = W.cell? ⟨b,o,none⟩) /\ (∀ b o,b < W.heap.size -> w1.frozen? ⟨b,o,none⟩ = W.frozen? ⟨b,o,none⟩) :=
 ⟨fun b o h=>hb.cell (p := ⟨b,o,none⟩) h,fun b o h=>hb.frozen (p := ⟨b,o,none⟩) h⟩
theorem byte39 {c:UInt8} (h:c.toNat = 39):c = 39 := by
 apply UInt8.toNat_inj.1
 rw [h]; rfl
theorem ext_list (s:ByteArray) (a b:Nat):(s.extract a b).data.toList = (s.data.toList.take b).drop a := by
 rw [ByteArray.data_extract,Array.toList_extract,List.extract_eq_take_drop,List.drop_take]
theorem ext_snoc (s:ByteArray) (a b:Nat) (hab:a <= b) (hb:b < s.size):(s.extract a (b + 1)).data.toList = (s.extract a b).data.toList ++ [s[b]] := by
 rw [ext_list,ext_list,take_snoc s b hb,List.drop_append_of_le_length (by simp; omega)]
theorem ext_nil (s:ByteArray) (a:Nat):(s.extract a a).data.toList = [] := by
 rw [ext_list]; exact List.drop_eq_nil_of_le (by simp; omega)
def spanAt (p:UInt8 -> Bool) (s:ByteArray) (k e:Nat):Prop :=
 (s.extract k e).data.toList ++ (Pl.from_ s e).takeWhile p = (Pl.from_ s k).takeWhile p /\ (Pl.from_ s e).dropWhile p = (Pl.from_ s k).dropWhile p
theorem span_start (p:UInt8 -> Bool) (s:ByteArray) (k:Nat):spanAt p s k k := ⟨by rw [ext_nil]; rfl,rfl⟩
theorem span_more {p:UInt8 -> Bool} {s:ByteArray} {k e:Nat} (hk:k <= e) (he:e < s.size) (h:spanAt p s k e) (hp:p s[e] = true):spanAt p s k (e + 1) := by
 obtain ⟨h1,h2⟩ := h
 rw [Pl.from_lt s e he,List.takeWhile_cons_of_pos hp] at h1
 rw [Pl.from_lt s e he,List.dropWhile_cons_of_pos hp] at h2
 exact ⟨by rw [ext_snoc s k e hk he,<- h1]; simp,h2⟩
theorem span_end {p:UInt8 -> Bool} {s:ByteArray} {k e:Nat} (h:spanAt p s k e) (hr:¬ e < s.size \/ ∃ h:e < s.size,p s[e] = false) :
   (s.extract k e).data.toList = (Pl.from_ s k).takeWhile p /\ Pl.from_ s e = (Pl.from_ s k).dropWhile p := by
 obtain ⟨h1,h2⟩ := h
 rcases hr with hr | ⟨he,hp⟩
 · rw [Pl.from_ge s e (by omega)] at h1 h2
   refine ⟨by simpa using h1,?_⟩
   rw [Pl.from_ge s e (by omega)]; exact h2
 · rw [Pl.from_lt s e he] at h1 h2
   rw [List.takeWhile_cons_of_neg (by simp [hp])] at h1
   rw [List.dropWhile_cons_of_neg (by simp [hp])] at h2
   refine ⟨by simpa using h1,?_⟩
   rw [Pl.from_lt s e he]; exact h2
theorem below_box {w w1:World} (hb:Below w.heap.size w w1) (a b c:Value):Below w.heap.size w (((w1.setCell ⟨w.heap.size,0,none⟩ a).setCell ⟨w.heap.size,1,none⟩ b).setCell ⟨w.heap.size,2,none⟩ c) :=
 ((hb.setCell (Nat.le_refl _) _).setCell (Nat.le_refl _) _).setCell (Nat.le_refl _) _
set_option linter.unusedSimpArgs false
set_option linter.unusedVariables false
def SpellAt (w:World):Prop := ∀ k,k < 51 -> w.cell? ⟨1,k,none⟩ = some (.string ⟨(Pl.spell k).toArray⟩)
theorem span_takes {p:UInt8 -> Bool} {s:ByteArray} {e:Nat} (h:spanAt p s 0 e) (hr:¬ e < s.size \/ ∃ h:e < s.size,p s[e] = false) (he:e <= s.size):((s.data.toList.takeWhile p).length:Int) = e := by
 have := (span_end h hr).1
 rw [ext_list] at this
 have h2:((s.data.toList.take e).drop 0).length = e := by simp; omega
 rw [this] at h2
 rw [<- Pl.from_zero]
 omega
theorem span_any (p:UInt8 -> Bool) (f:FuncId) (hcall:∀ (a:Array Value) (w:World),(callFunc f a).run Tryz.prog w = .ok (.enter f a) w) (hf:∀ (c:UInt8) (w:World),Calls Tryz.prog f #[.int .u8 c.toNat] w fun e w' => e = .returned (.bool (p c)) /\ w' = w) (s:ByteArray) (w:World) (hs:s.size <= 1048576) :
   Calls Tryz.prog 200 #[.string s,.func (.func f) #[] #[]] w fun e w' => e = .returned (.int .i64 (s.data.toList.takeWhile p).length) /\ w' = w := by
 have HF := hide hf
 clear hf
 go_enter Tryz.func200,Tryz.ntmps200
 go_wp2_with fail
 go_loop [5] (fun a=>∃ k:Nat,k <= s.size /\ a = .int .i64 k /\ Hid (spanAt p s 0 k)) (fun a=>s.size - (intOf a).toNat)
 case atStart=>exact ⟨0,Nat.zero_le _,rfl,span_start _ _ _⟩
 case round =>
   obtain ⟨k,hk,rfl,HS⟩ := hrel
   by_cases hlt:k < s.size
   · cases hp:p s[k]
     · have HE := hide (span_takes HS.out (.inr ⟨hlt,hp⟩) hk)
       go_wp2_with fail
       refine (unhide HF _ _).mono ?_
       rintro e w1 ⟨rfl,rfl⟩
       rw [hp]
       go_wp2_with fail
       go_ret
       exact ⟨ret_int HE.out.symm,rfl⟩
     · have HR:Hid (spanAt p s 0 (k + 1)) := span_more (Nat.zero_le _) hlt HS.out hp
       go_wp2_with fail
       refine (unhide HF _ _).mono ?_
       rintro e w1 ⟨rfl,rfl⟩
       rw [hp]
       go_wp2_with fail
       go_round
       case rel=>exact ⟨k + 1,by omega,by go_num,HR⟩
       case measure=>simp [intOf]; omega
   · have HE := hide (span_takes HS.out (.inl hlt) hk)
     go_wp2_with fail
     go_ret
     exact ⟨ret_int HE.out.symm,rfl⟩
theorem span_word (s:ByteArray) (w:World) (hs:s.size <= 1048576):Calls Tryz.prog 200 #[.string s,.func (.func 201) #[] #[]] w fun e w' => e = .returned (.int .i64 (s.data.toList.takeWhile Pl.isLD).length) /\ w' = w :=
 span_any Pl.isLD 201 (fun a w=>by go_simp) isLetterOrDigit_any s w hs
theorem span_digits (s:ByteArray) (w:World) (hs:s.size <= 1048576):Calls Tryz.prog 200 #[.string s,.func (.func 145) #[] #[]] w fun e w' => e = .returned (.int .i64 (s.data.toList.takeWhile Pl.isDig).length) /\ w' = w :=
 span_any Pl.isDig 145 (fun a w=>by go_simp) isDigit_any s w hs
def kwN (g:List UInt8):Int := match Pl.kwOf g with
 | some i=>((20 + i:Nat):Int)
 | none=>0
theorem keyword_any (g:List UInt8) (w:World) (hg:SpellAt w) :
   Calls Tryz.prog 202 #[.string ⟨g.toArray⟩] w fun e w' => e = .returned (.int .i64 (kwN g)) /\ w' = w := by
 have HG := hide hg
 clear hg
 go_enter Tryz.func202,Tryz.ntmps202
 go_wp2_with fail
 go_loop [3] (fun a=>∃ i:Nat,i <= 31 /\ a = .int .i64 ((20 + i:Nat):Int) /\ Hid (∀ j,j < i -> Pl.spell (20 + j) ≠ g)) (fun a=>51 - (intOf a).toNat)
 case atStart=>exact ⟨0,by omega,rfl,fun j hj=>by omega⟩
 case round =>
   obtain ⟨i,hi,rfl,HNO⟩ := hrel
   by_cases hlt:i < 31
   · have hc := HG.out (20 + i) (by omega)
     cases he:(Pl.spell (20 + i) == g)
     · go_wp2_with fail
       go_round
       case rel=>exact ⟨i + 1,by omega,by go_num,fun j hj=>by
         by_cases e:j = i
         · subst e; simpa using he
         · exact HNO.out j (by omega)⟩
       case measure=>simp [intOf]; omega
     · have HK:Hid (kwN g = ((20 + i:Nat):Int)) := by
         show kwN g = _
         unfold kwN Pl.kwOf
         rw [Pl.kwFrom_hit (Nat.zero_le _) (by omega) (fun j _ hj=>HNO.out j hj) (by simpa using he)]
       go_wp2_with fail
       go_ret
       exact ⟨ret_int (by rw [HK.out]; omega),rfl⟩
   · have HK:Hid (kwN g = 0) := by
       show kwN g = _
       unfold kwN Pl.kwOf
       rw [Pl.kwFrom_none (fun j _ hj=>HNO.out j (by omega))]
     go_wp2_with fail
     go_ret
     exact ⟨ret_int (by rw [HK.out]),rfl⟩
namespace Pl
def cTok (t:Tok):Value := .agg #[.int .i64 t.k,.int .i64 t.n,.string ⟨t.s.toArray⟩]
theorem cTok_eq (t:Tok):cTok t = .agg #[.int .i64 t.k,.int .i64 t.n,.string ⟨t.s.toArray⟩] := rfl
def tok0:Value := .agg #[.int .i64 0,.int .i64 0,.string ⟨#[]⟩]
def cut1 (z:Tok × List UInt8) (l:List UInt8):Value := if z.1.k = 99 then .tuple #[tok0,.int .i64 0] else .tuple #[cTok z.1,.int .i64 ((l.length - z.2.length:Nat):Int)]
theorem cut1_bad {z:Tok × List UInt8} {l:List UInt8} (h:z.1.k = 99):cut1 z l = .tuple #[tok0,.int .i64 0] := by unfold cut1; rw [if_pos h]
theorem cut1_ok {z:Tok × List UInt8} {l:List UInt8} (h:z.1.k ≠ 99):cut1 z l = .tuple #[cTok z.1,.int .i64 ((l.length - z.2.length:Nat):Int)] := by unfold cut1; rw [if_neg h]
theorem sign_hit {c:UInt8} {r:List UInt8} {k:Nat} (h4:4 <= k) (h20:k < 20) (hp:(spell k).isPrefixOf (c :: r) = true) (hno:∀ j,4 <= j -> j < k -> (spell j).isPrefixOf (c :: r) = false) :
   signTok (c :: r) = (⟨k,0,[]⟩,(c :: r).drop (spell k).length) := by
 have hk:k = 4 \/ k = 5 \/ k = 6 \/ k = 7 \/ k = 8 \/ k = 9 \/ k = 10 \/ k = 11 \/ k = 12 \/ k = 13 \/ k = 14 \/ k = 15 \/ k = 16 \/ k = 17 \/ k = 18 \/ k = 19 := by omega
 have n4 := hno 4 (by omega)
 have n5 := hno 5 (by omega)
 have n6 := hno 6 (by omega)
 clear hno
 cases r with
 | nil=>rcases hk with rfl | rfl | rfl | rfl | rfl | rfl | rfl | rfl | rfl | rfl | rfl | rfl | rfl | rfl | rfl | rfl <;> simp [spell,spells,List.isPrefixOf] at hp <;> subst hp <;> rfl
 | cons d r =>
   rcases hk with rfl | rfl | rfl | rfl | rfl | rfl | rfl | rfl | rfl | rfl | rfl | rfl | rfl | rfl | rfl | rfl
   · simp [spell,spells,List.isPrefixOf] at hp; obtain ⟨rfl,rfl⟩ := hp; rfl
   · simp [spell,spells,List.isPrefixOf] at hp; obtain ⟨rfl,rfl⟩ := hp; rfl
   · simp [spell,spells,List.isPrefixOf] at hp; obtain ⟨rfl,rfl⟩ := hp; rfl
   all_goals
     have n4 := n4 (by omega)
     have n5 := n5 (by omega)
     have n6 := n6 (by omega)
     simp [spell,spells,List.isPrefixOf] at n4 n5 n6
     have ht:twoSign c.toNat d.toNat = 99 := by
       unfold twoSign
       rw [if_neg,if_neg,if_neg]
       · rintro ⟨h1,h2⟩; exact n6 (UInt8.toNat_inj.1 h1).symm (UInt8.toNat_inj.1 h2).symm
       · rintro ⟨h1,h2⟩; exact n5 (UInt8.toNat_inj.1 h1).symm (UInt8.toNat_inj.1 h2).symm
       · rintro ⟨h1,h2⟩; exact n4 (UInt8.toNat_inj.1 h1).symm (UInt8.toNat_inj.1 h2).symm
     rw [signTok,ht,if_pos rfl]
     clear ht n4 n5 n6
     simp [spell,spells,List.isPrefixOf] at hp
     subst hp
     rfl
theorem sign_miss {c:UInt8} {r:List UInt8} (hno:∀ j,4 <= j -> j < 20 -> (spell j).isPrefixOf (c :: r) = false):(signTok (c :: r)).1.k = 99 := by
 have n4 := hno 4 (by omega) (by omega)
 have n5 := hno 5 (by omega) (by omega)
 have n6 := hno 6 (by omega) (by omega)
 have one:oneSign c.toNat = 99 := by
   have m := fun j (h1:7 <= j) (h2:j < 20)=>hno j (by omega) h2
   have q:∀ (j:Nat) (x:UInt8) (n:Nat),x.toNat = n -> 7 <= j -> j < 20 -> spell j = [x] -> ¬ c.toNat = n := fun j x n hn h1 h2 hs e=>by
     have := m j h1 h2
     rw [hs] at this
     simp [List.isPrefixOf] at this
     exact this (UInt8.toNat_inj.1 (e.trans hn.symm)).symm
   unfold oneSign
   rw [if_neg (q 7 40 40 rfl (by omega) (by omega) rfl),if_neg (q 8 41 41 rfl (by omega) (by omega) rfl),if_neg (q 9 44 44 rfl (by omega) (by omega) rfl),if_neg (q 10 46 46 rfl (by omega) (by omega) rfl),if_neg (q 11 59 59 rfl (by omega) (by omega) rfl),if_neg (q 12 61 61 rfl (by omega) (by omega) rfl),if_neg (q 13 60 60 rfl (by omega) (by omega) rfl),if_neg (q 14 62 62 rfl (by omega) (by omega) rfl),if_neg (q 15 43 43 rfl (by omega) (by omega) rfl),if_neg (q 16 45 45 rfl (by omega) (by omega) rfl),if_neg (q 17 42 42 rfl (by omega) (by omega) rfl),if_neg (q 18 47 47 rfl (by omega) (by omega) rfl),if_neg (q 19 37 37 rfl (by omega) (by omega) rfl)]
 cases r with
 | nil=>simp only [signTok]; exact one
 | cons d r =>
   have ht:twoSign c.toNat d.toNat = 99 := by
     simp [spell,spells,List.isPrefixOf] at n4 n5 n6
     unfold twoSign
     rw [if_neg,if_neg,if_neg]
     · rintro ⟨h1,h2⟩; exact n6 (UInt8.toNat_inj.1 h1).symm (UInt8.toNat_inj.1 h2).symm
     · rintro ⟨h1,h2⟩; exact n5 (UInt8.toNat_inj.1 h1).symm (UInt8.toNat_inj.1 h2).symm
     · rintro ⟨h1,h2⟩; exact n4 (UInt8.toNat_inj.1 h1).symm (UInt8.toNat_inj.1 h2).symm
   rw [signTok,ht,if_pos rfl]; exact one
end Pl
structure LexLib:Prop where
 pre:∀ (s p:ByteArray) (w:World),Calls Tryz.prog 206 #[.string s,.string p] w fun e w' => e = .returned (.bool (p.data.toList.isPrefixOf s.data.toList)) /\ w' = w
 upper:∀ (s:ByteArray) (w:World),s.size <= 1048576 -> (∀ c ∈ s.data.toList,c.toNat < 128) -> Calls Tryz.prog 203 #[.string s] w fun e w' => e = .returned (.string ⟨(s.data.toList.map Pl.up).toArray⟩) /\ Below w.heap.size w w'
 trim:∀ (s:ByteArray) (w:World),Calls Tryz.prog 142 #[.string s,.string ⟨#[32,9,10]⟩] w fun e w' => e = .returned (.string ⟨(s.data.toList.dropWhile Pl.isBlank).toArray⟩) /\ Below w.heap.size w w'
 clone:∀ (s:ByteArray) (w:World),s.size <= 1048576 -> Calls Tryz.prog 204 #[.string s] w fun e w' => e = .returned (.string s) /\ Below w.heap.size w w'
 atoi:∀ (s:ByteArray) (w:World),s.size <= 1048576 -> (∀ c ∈ s.data.toList,Pl.isDig c = true) -> s.data.toList ≠ [] -> Pl.worth 0 s.data.toList <= 9223372036854775807 -> Calls Tryz.prog 205 #[.string s] w fun e w' => e = .returned (.tuple #[.int .i64 (Pl.worth 0 s.data.toList),.nilIface]) /\ Below w.heap.size w w'
 great:∀ (s:ByteArray) (w:World),s.size <= 1048576 -> (∀ c ∈ s.data.toList,Pl.isDig c = true) -> s.data.toList ≠ [] -> 9223372036854775807 < Pl.worth 0 s.data.toList -> (∃ te pe,w.cell? ⟨8,0,none⟩ = some (.iface te pe)) -> Calls Tryz.prog 205 #[.string s] w fun e w' => ∃ n te pe,e = .returned (.tuple #[.int .i64 n,.iface te pe]) /\ Below w.heap.size w w'
theorem lt_of_cell {w:World} {b o:Nat} {v:Value} (h:w.cell? ⟨b,o,none⟩ = some v):b < w.heap.size := by
 rcases Nat.lt_or_ge b w.heap.size with h1 | h1
 · exact h1
 · exfalso
   unfold World.cell? at h
   rw [Array.getElem?_eq_none h1] at h
   simp at h
theorem SpellAt.lt {w:World} (h:SpellAt w) : 1 < w.heap.size := lt_of_cell (h 0 (by omega))
theorem sign_any (X:LexLib) (c:UInt8) (r:List UInt8) (w:World) (hg:SpellAt w) :
   Calls Tryz.prog 148 #[.string ⟨(c :: r).toArray⟩] w fun e w' => e = .returned (Pl.cut1 (Pl.signTok (c :: r)) (c :: r)) /\ Below w.heap.size w w' := by
 have HG := hide hg
 have HX := hide X.pre
 clear hg X
 go_enter Tryz.func148,Tryz.ntmps148
 go_wp2_with fail
 go_loop [4] (fun a=>∃ i:Nat,4 <= i /\ i <= 20 /\ a = .int .i64 i /\ Hid (∀ j,4 <= j -> j < i -> (Pl.spell j).isPrefixOf (c :: r) = false)) (fun a=>20 - (intOf a).toNat)
 case atStart=>exact ⟨4,by omega,by omega,rfl,fun j h1 h2=>by omega⟩
 case round =>
   obtain ⟨i,h4,hi,rfl,HN⟩ := hrel
   by_cases hlt:i < 20
   · have hc := HG.out i (by omega)
     have hz := HG.out.lt
     have HC:Hid (∀ w,Calls Tryz.prog 206 #[.string ⟨(c :: r).toArray⟩,.string ⟨(Pl.spell i).toArray⟩] w fun e w' => e = .returned (.bool ((Pl.spell i).isPrefixOf (c :: r))) /\ w' = w) := fun w=>HX.out _ _ w
     cases hp:(Pl.spell i).isPrefixOf (c :: r)
     · go_wp2_with fail
       refine (unhide HC _).mono ?_
       rintro e w1 ⟨rfl,rfl⟩
       rw [hp]
       go_wp2_with fail
       go_round
       case rel=>exact ⟨i + 1,by omega,by omega,by go_num,fun j h1 h2=>by
         by_cases e:j = i
         · subst e; exact hp
         · exact HN.out j h1 (by omega)⟩
       case measure=>simp [intOf]; omega
     · have hs := Pl.sign_hit h4 hlt hp HN.out
       have HV:Hid (Pl.cut1 (Pl.signTok (c :: r)) (c :: r) = .tuple #[.agg #[.int .i64 i,.int .i64 0,.string ⟨#[]⟩],.int .i64 (Pl.spell i).length]) := by
         unfold Hid
         rw [Pl.cut1_ok (by rw [hs]; show i ≠ 99; omega),hs,Pl.cTok_eq]
         have hl:(Pl.spell i).length <= (c :: r).length := (List.isPrefixOf_iff_prefix.1 hp).length_le
         simp only [List.length_drop]
         rw [show (c :: r).length - ((c :: r).length - (Pl.spell i).length) = (Pl.spell i).length by omega]
       clear hs
       go_wp2_with fail
       refine (unhide HC _).mono ?_
       rintro e w1 ⟨rfl,rfl⟩
       rw [hp]
       go_wp2_with fail
       go_region
       go_wp2_with fail
       refine bodyPost_ret (v := .tuple #[.agg #[.int .i64 i,.int .i64 0,.string ⟨#[]⟩],.int .i64 (Pl.spell i).length]) ?_ rfl ⟨by rw [HV.out],((Below.refl _ _).alloc (Nat.le_refl _) _).drew⟩
       simp [results,Tryz.results148,go_sem]
   · have HV := hide (Pl.cut1_bad (l := c :: r) (Pl.sign_miss (fun j h1 h2=>HN.out j h1 (by omega))))
     go_wp2_with fail
     refine bodyPost_ret (v := .tuple #[Pl.tok0,.int .i64 0]) ?_ rfl ⟨by rw [HV.out],(Below.refl _ _).alloc (Nat.le_refl _) _⟩
     simp [results,Tryz.results148,go_sem,Pl.tok0]
open Go.RowKit
set_option linter.unusedSimpArgs false
set_option linter.unusedVariables false
theorem tw_le (p:UInt8 -> Bool):∀ l:List UInt8,(l.takeWhile p).length <= l.length
 | []=>Nat.le_refl _
 | c :: r=>by rw [List.takeWhile_cons]; split; simp; exact tw_le p r; simp
theorem tw_dw (p:UInt8 -> Bool) (l:List UInt8):(l.takeWhile p).length + (l.dropWhile p).length = l.length := by
 rw [<- List.length_append,List.takeWhile_append_dropWhile]
theorem take_tw (p:UInt8 -> Bool):∀ l:List UInt8,l.take (l.takeWhile p).length = l.takeWhile p
 | []=>rfl
 | c :: r=>by
   rw [List.takeWhile_cons]; split
   · simp [take_tw p r]
   · rfl
theorem ext_tw (p:UInt8 -> Bool) (s:ByteArray):(s.extract 0 (s.data.toList.takeWhile p).length).data.toList = s.data.toList.takeWhile p := by
 rw [ext_list,List.drop_zero,take_tw]
def ErrAt (w:World):Prop := ∃ te pe,w.cell? ⟨8,0,none⟩ = some (.iface te pe)
theorem ErrAt.alloc {w:World} (h:ErrAt w) (o:Obj):ErrAt (w.alloc o) := by
 obtain ⟨te,pe,hc⟩ := h
 exact ⟨te,pe,by rw [World.cell?_alloc_past (hn := lt_of_cell hc)]; exact hc⟩
theorem number_any (X:LexLib) (s:ByteArray) (w:World) (hs:s.size <= 1048576) (h0:(s.data.toList.takeWhile Pl.isDig) ≠ []) (hg:ErrAt w) :
   Calls Tryz.prog 146 #[.string s] w fun e w' => e = .returned (Pl.cut1 (Pl.numTok (s.data.toList.takeWhile Pl.isDig),s.data.toList.dropWhile Pl.isDig) s.data.toList) /\ Below w.heap.size w w' := by
 have HS := hide (span_digits s)
 have hn:(s.data.toList.takeWhile Pl.isDig).length <= s.size := by simpa using tw_le Pl.isDig s.data.toList
 have HE := hide (ext_tw Pl.isDig s)
 have HD := hide (tw_dw Pl.isDig s.data.toList)
 have HM:Hid (∀ c ∈ s.data.toList.takeWhile Pl.isDig,Pl.isDig c = true) := fun c hc=>Pl.mem_tw hc
 generalize hds:s.data.toList.takeWhile Pl.isDig = ds at *
 generalize hrr:s.data.toList.dropWhile Pl.isDig = rr at *
 have HX := hide X
 have HG := hide hg
 have H0 := hide h0
 have hes:(s.extract 0 ds.length).size <= 1048576 := by rw [ByteArray.size_extract]; omega
 have HES := hide hes
 clear X hg h0 hds hrr hes
 by_cases hw:9223372036854775807 < Pl.worth 0 ds
 · have HV:Hid (Pl.cut1 (Pl.numTok ds,rr) s.data.toList = .tuple #[Pl.tok0,.int .i64 0]) := Pl.cut1_bad (by unfold Pl.numTok; rw [if_pos hw]; rfl)
   have HW := hide hw
   clear hw
   go_enter Tryz.func146,Tryz.ntmps146
   go_wp2_with fail
   refine (unhide HS _ hs).mono ?_
   rintro e w1 ⟨rfl,rfl⟩
   go_wp2_with fail
   refine (HX.out.great _ _ HES.out (by rw [HE.out]; exact HM.out) (by rw [HE.out]; exact H0.out) (by rw [HE.out]; exact HW.out) (ErrAt.alloc HG.out _)).mono ?_
   rintro e w2 ⟨n,te,pe,rfl,hb⟩
   obtain ⟨c1,f1⟩ := bcell hb
   go_wp2_with fail
   refine bodyPost_ret (v := .tuple #[Pl.tok0,.int .i64 0]) ?_ rfl ⟨by rw [HV.out],?_⟩
   · simp [results,Tryz.results146,go_sem,Pl.tok0,c1]
   · exact below_box (((Below.refl _ _).alloc (Nat.le_refl _) _).trans (hb.mono (by simp))) _ _ _
 · have HV:Hid (Pl.cut1 (Pl.numTok ds,rr) s.data.toList = .tuple #[.agg #[.int .i64 2,.int .i64 (Pl.worth 0 ds),.string ⟨#[]⟩],.int .i64 ds.length]) := by
     have e:Pl.numTok ds = ⟨2,Pl.worth 0 ds,[]⟩ := by unfold Pl.numTok; rw [if_neg hw]
     unfold Hid
     rw [Pl.cut1_ok (by rw [e]; show (2:Nat) ≠ 99; decide),e,Pl.cTok_eq]
     simp only
     rw [show s.data.toList.length - rr.length = ds.length by have := HD.out; omega]
     rfl
   have HW := hide hw
   clear hw
   go_enter Tryz.func146,Tryz.ntmps146
   go_wp2_with fail
   refine (unhide HS _ hs).mono ?_
   rintro e w1 ⟨rfl,rfl⟩
   go_wp2_with fail
   refine (HX.out.atoi _ _ HES.out (by rw [HE.out]; exact HM.out) (by rw [HE.out]; exact H0.out) (by rw [HE.out]; have := HW.out; omega)).mono ?_
   rw [HE.out]
   rintro e w2 ⟨rfl,hb⟩
   obtain ⟨c1,f1⟩ := bcell hb
   go_wp2_with fail
   refine bodyPost_ret (v := .tuple #[.agg #[.int .i64 2,.int .i64 (Pl.worth 0 ds),.string ⟨#[]⟩],.int .i64 ds.length]) ?_ rfl ⟨by rw [HV.out],?_⟩
   · simp [results,Tryz.results146,go_sem,c1]
   · exact below_box (((Below.refl _ _).alloc (Nat.le_refl _) _).trans (hb.mono (by simp))) _ _ _
theorem ascii_ld {c:UInt8} (h:Pl.isLD c = true):c.toNat < 128 := by
 unfold Pl.isLD at h
 simp only [Bool.or_eq_true] at h
 rcases h with h | h
 · have := (Pl.isLet_iff c).1 h; omega
 · have := (Pl.isDig_iff c).1 h; omega
theorem SpellAt.below {w w':World} (h:SpellAt w) (hb:Below w.heap.size w w'):SpellAt w' := fun k hk=>by
 rw [hb.cell (p := ⟨1,k,none⟩) h.lt]; exact h k hk
theorem ErrAt.below {w w':World} (h:ErrAt w) (hb:Below w.heap.size w w'):ErrAt w' := by
 obtain ⟨te,pe,hc⟩ := h
 exact ⟨te,pe,by rw [hb.cell (p := ⟨8,0,none⟩) (lt_of_cell hc)]; exact hc⟩
theorem word_code (X:LexLib) (s:ByteArray) (w:World) (hs:s.size <= 1048576) (hg:SpellAt w) :
   Calls Tryz.prog 144 #[.string s] w fun e w' => e = .returned (Pl.cut1 (Pl.wordTok (s.data.toList.takeWhile Pl.isLD),s.data.toList.dropWhile Pl.isLD) s.data.toList) /\ Below w.heap.size w w' := by
 have HS := hide (span_word s)
 have hn:(s.data.toList.takeWhile Pl.isLD).length <= s.size := by simpa using tw_le Pl.isLD s.data.toList
 have HE := hide (ext_tw Pl.isLD s)
 have HD := hide (tw_dw Pl.isLD s.data.toList)
 have HM:Hid (∀ c ∈ s.data.toList.takeWhile Pl.isLD,c.toNat < 128) := fun c hc=>ascii_ld (Pl.mem_tw hc)
 generalize hds:s.data.toList.takeWhile Pl.isLD = ds at *
 generalize hrr:s.data.toList.dropWhile Pl.isLD = rr at *
 have HX := hide X
 have HG := hide hg
 have hes:(s.extract 0 ds.length).size <= 1048576 := by rw [ByteArray.size_extract]; omega
 have HES := hide hes
 clear X hg hds hrr hes
 go_enter Tryz.func144,Tryz.ntmps144
 go_wp2_with fail
 refine (unhide HS _ hs).mono ?_
 rintro e w1 ⟨rfl,rfl⟩
 go_wp2_with fail
 refine (HX.out.upper _ _ HES.out (by rw [HE.out]; exact HM.out)).mono ?_
 rw [HE.out]
 rintro e w2 ⟨rfl,hb⟩
 obtain ⟨c1,f1⟩ := bcell hb
 have HB := hide (((Below.refl w.heap.size w).alloc (Nat.le_refl _) _).trans (hb.mono (by simp)))
 have hz3 := hide hb.size
 clear hb
 go_wp2_with fail
 refine (keyword_any (ds.map Pl.up) w2 (HG.out.below HB.out)).mono ?_
 rintro e w3 ⟨rfl,rfl⟩
 cases hk:Pl.kwOf (ds.map Pl.up) with
 | some i =>
   have hi := Pl.kwFrom_some hk
   have e:Pl.wordTok ds = ⟨20 + i,0,[]⟩ := by unfold Pl.wordTok; rw [hk]
   have HV:Hid (Pl.cut1 (Pl.wordTok ds,rr) s.data.toList = .tuple #[.agg #[.int .i64 ((20 + i:Nat):Int),.int .i64 0,.string ⟨#[]⟩],.int .i64 ds.length]) := by
     unfold Hid
     rw [Pl.cut1_ok (by rw [e]; show 20 + i ≠ 99; omega),e,Pl.cTok_eq]
     simp only
     rw [show s.data.toList.length - rr.length = ds.length by have := HD.out; omega]
   have hkn:kwN (ds.map Pl.up) = ((20 + i:Nat):Int) := by unfold kwN; rw [hk]
   rw [hkn]
   have h31:i < 31 := by omega
   clear hi hk e hkn
   go_wp2_with fail
   refine bodyPost_ret (v := .tuple #[.agg #[.int .i64 ((20 + i:Nat):Int),.int .i64 0,.string ⟨#[]⟩],.int .i64 ds.length]) ?_ rfl ⟨by rw [HV.out],?_⟩
   · simp [results,Tryz.results144,go_sem,c1]
   · exact below_box HB.out _ _ _
 | none =>
   have hkn:kwN (ds.map Pl.up) = 0 := by unfold kwN; rw [hk]
   rw [hkn]
   by_cases h10:10 < ds.length
   · have HV:Hid (Pl.cut1 (Pl.wordTok ds,rr) s.data.toList = .tuple #[Pl.tok0,.int .i64 0]) := Pl.cut1_bad (by unfold Pl.wordTok; rw [hk]; simp only; rw [if_pos h10]; rfl)
     clear hk hkn
     go_wp2_with fail
     refine bodyPost_ret (v := .tuple #[Pl.tok0,.int .i64 0]) ?_ rfl ⟨by rw [HV.out],?_⟩
     · simp [results,Tryz.results144,go_sem,Pl.tok0,c1]
     · exact below_box HB.out _ _ _
   · have HV:Hid (Pl.cut1 (Pl.wordTok ds,rr) s.data.toList = .tuple #[.agg #[.int .i64 1,.int .i64 0,.string ⟨ds.toArray⟩],.int .i64 ds.length]) := by
       have e:Pl.wordTok ds = ⟨1,0,ds⟩ := by unfold Pl.wordTok; rw [hk]; simp only; rw [if_neg h10]
       unfold Hid
       rw [Pl.cut1_ok (by rw [e]; show (1:Nat) ≠ 99; decide),e,Pl.cTok_eq]
       simp only
       rw [show s.data.toList.length - rr.length = ds.length by have := HD.out; omega]
       rfl
     have HQ:Hid (s.extract 0 ds.length = ⟨ds.toArray⟩) := by
       unfold Hid
       apply ByteArray.ext
       apply Array.toList_inj.1
       rw [HE.out]
     clear hk hkn
     go_wp2_with fail
     refine (HX.out.clone _ _ HES.out).mono ?_
     rw [HQ.out]
     rintro e w4 ⟨rfl,hb4⟩
     have hz:w.heap.size < w3.heap.size := by have := HB.out.size; have h2 := hz3.out; simp at h2; omega
     obtain ⟨c4,f4⟩ := bcell hb4
     have HB4 := hide (HB.out.trans (hb4.mono (by omega)))
     go_wp2_with fail
     refine bodyPost_ret (v := .tuple #[.agg #[.int .i64 1,.int .i64 0,.string ⟨ds.toArray⟩],.int .i64 ds.length]) ?_ rfl ⟨by rw [HV.out],?_⟩
     · simp [results,Tryz.results144,go_sem,c4,c1,hz]
     · exact below_box HB4.out _ _ _
end Go.Proofs.YtojdpjpldokjmaaGreatDoor
