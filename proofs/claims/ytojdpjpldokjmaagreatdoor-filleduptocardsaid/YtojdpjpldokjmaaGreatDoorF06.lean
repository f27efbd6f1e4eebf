/- The code's statements: INSERT, DELETE, UPDATE. -/
import Derived.Test.YtojdpjpldokjmaaGreatDoorF05
import Derived.Deep.LoopGhost
set_option maxHeartbeats 60000000
set_option maxRecDepth 100000
namespace Go.Proofs.YtojdpjpldokjmaaGreatDoor
open Go.RowKit Go.Deep
set_option linter.unusedSimpArgs false
set_option linter.unusedVariables false
theorem needs2 {ts:List Pl.Tok}{k j:Nat}:needs [k,j] ts=if (Pl.hd ts).k=k then (if (Pl.hd ts.tail).k=j then some ts.tail.tail else none) else none:=by
 rw [needs,needs1]
 unfold hk
 by_cases h:(Pl.hd ts).k=k
 ·simp [h]
 ·simp [h]
theorem g_need3 {σ:Type}{b:Bool}{spec:Option σ}{ts:List Pl.Tok}{b':Bool}{P:Prop}{k j:Nat}{w:World}{rb:Nat}{T:List Pl.Tok}(hg:Gd b spec ts b' P)(hP:P->¬ ((Pl.hd ts).k=k/\(Pl.hd ts.tail).k=j)->spec=none)(hk0:k≠0)(hr:RCo w rb T (needs [k,j] ts) 0 b') :
 ∃ ts2 b2,RC w rb T ts2 0 b2/\Gd b spec ts2 b2 (P/\(Pl.hd ts).k=k/\(Pl.hd ts.tail).k=j/\ts2=ts.tail.tail):=by
 rw [needs2] at hr
 rcases hg with ⟨rfl,p⟩|⟨rfl,rfl,hs⟩
 ·by_cases h:(Pl.hd ts).k=k
  ·rw [if_pos h] at hr
   by_cases h2:(Pl.hd ts.tail).k=j
   ·rw [if_pos h2] at hr
    exact ⟨ts.tail.tail,b',hr,.inl ⟨rfl,p,h,h2,rfl⟩⟩
   ·rw [if_neg h2] at hr
    exact ⟨[],true,hr,.inr ⟨rfl,rfl,hP p (fun h=>h2 h.2)⟩⟩
  ·rw [if_neg h] at hr
   exact ⟨[],true,hr,.inr ⟨rfl,rfl,hP p (fun h2=>h h2.1)⟩⟩
 ·rw [if_neg (fun h=>hk0 h.symm)] at hr
  exact ⟨[],true,hr,.inr ⟨rfl,rfl,hs⟩⟩
def cin3 (nm:List UInt8)(its:List Pl.It)(ts:List Pl.Tok):Option (Pl.St × List Pl.Tok):=if (Pl.hd ts).k=8 then some (Pl.st0 105 nm its .nil,ts.tail) else none
def cin2 (nm:List UInt8)(ts:List Pl.Tok):Option (Pl.St × List Pl.Tok):=match Pl.listed Pl.iValue ts with|none=>none|some y=>cin3 nm y.1 y.2
def cin1 (nm:List UInt8)(ts:List Pl.Tok):Option (Pl.St × List Pl.Tok):=if (Pl.hd ts).k=24/\(Pl.hd ts.tail).k=7 then cin2 nm ts.tail.tail else none
def cin0 (ts:List Pl.Tok):Option (Pl.St × List Pl.Tok):=if (Pl.hd ts).k=1 then cin1 (Pl.hd ts).s ts.tail else none
theorem pInsert_eq (ts:List Pl.Tok):Pl.pInsert ts=if (Pl.hd ts).k=23 then cin0 ts.tail else none:=by
 unfold Pl.pInsert cin0 cin1 cin2
 rw [inOpen_eq]
 by_cases h21:(Pl.hd ts).k=23
 ·rw [if_pos h21,if_pos h21]
  by_cases h1:(Pl.hd ts.tail).k=1
  ·rw [if_pos h1,if_pos h1]
   by_cases h24:(Pl.hd ts.tail.tail).k=24
   ·rw [if_pos h24]
    by_cases h7:(Pl.hd ts.tail.tail.tail).k=7
    ·rw [if_pos h7,if_pos ⟨h24,h7⟩]
     cases hl:Pl.listed Pl.iValue ts.tail.tail.tail.tail with
     | none=>rfl
     | some y =>
      simp only [cin3]
      by_cases h8:(Pl.hd y.2).k=8
      ·rw [if_pos h8,if_pos h8]
      ·rw [if_neg h8,if_neg h8]
    ·rw [if_neg h7,if_neg (fun h=>h7 h.2)]
   ·rw [if_neg h24,if_neg (fun h=>h24 h.1)]
  ·rw [if_neg h1,if_neg h1]
 ·rw [if_neg h21,if_neg h21]
theorem insertC (rb:Nat)(T ts:List Pl.Tok)(b:Bool)(w:World)(hR:RC w rb T ts 0 b) :
 Calls Tryz.prog 96 #[.pointer (some ⟨rb,0,none⟩)] w (PostS w rb T b (Pl.pInsert ts)):=by
 have hz:=hR.lt
 have HE:=Z (needC [23] 1 rfl (by decide) (by decide) w.heap.size 1 rb T ts 0 b _ (hR.alloc (.cells #[.int .i64 23] 129)) (kinds_new w [23] _ _ rfl) (by omega))
 clear hR
 generalize hsp:Pl.pInsert ts=sp
 rw [pInsert_eq] at hsp
 have HSP:=Z hsp
 clear hsp
 go_enter Tryz.func96,Tryz.ntmps96
 go_wp2_with fail
 refine (U HE).mono ?_
 rintro e w1 ⟨rfl,hr1,hk1⟩
 obtain ⟨t1,b1,hr1,hg1⟩:=g_need (b:=b) (spec:=sp) (P:=True) cin0 (.inl ⟨rfl,trivial⟩) (fun _=>HSP.out.symm) (by decide) hr1
 have HN:=Z (nameC rb T t1 0 b1 w1 hr1)
 have hg2:=g_name cin1 hg1 (fun h=>h.2)
 have HG2:=Z (hg2.map (fun h=>h.2))
 have HK1:=Z (((Keeps.refl rb w).alloc (.cells #[.int .i64 23] 129)).trans hk1)
 clear hr1 hk1 HE hg1 hg2
 go_wp2_with fail
 refine (U HN).mono ?_
 rintro e w2 ⟨rfl,hr2,hk2⟩
 have hz2:=hr2.lt
 have HK2:=Z (HK1.out.trans hk2)
 have hz02:=HK2.out.size
 have HE2:=Z (needC [24,7] 2 rfl (by decide) (by decide) (w2.heap.size+1) 2 rb T (nx t1 1) 0 (bx t1 1 b1) _ ((hr2.alloc (.cells #[.string ⟨(tokR t1 1).s.toArray⟩,.slice none 0 0] 194)).alloc (.cells #[.int .i64 24,.int .i64 7] 129)) (kinds_new2 w2 _ [24,7] _ _ rfl) (by omega))
 clear hr2 hk2 HN
 generalize (tokR t1 1).s=nm at *
 go_wp2_with fail
 refine (U HE2).mono ?_
 rintro e w3 ⟨rfl,hr3,hk3⟩
 obtain ⟨t3,b3,hr3,hg3⟩:=g_need3 (k:=24) (j:=7) HG2.out (fun h hn=>by rw [h,cin1,if_neg hn]) (by decide) hr3
 have HG3:Hid (Gd b sp t3 b3 (sp=cin2 nm t3)):=hg3.map (fun h=>by obtain ⟨h1,h2,h3,h4⟩:=h;rw [h1,cin1,if_pos ⟨h2,h3⟩,h4])
 have hsb:=hk3.blk (by omega) (bA (blk_new w2 (.cells #[.string ⟨nm.toArray⟩,.slice none 0 0] 194)) (.cells #[.int .i64 24,.int .i64 7] 129))
 have HK3:=Z (((HK2.out.alloc (.cells #[.string ⟨nm.toArray⟩,.slice none 0 0] 194)).alloc (.cells #[.int .i64 24,.int .i64 7] 129)).trans hk3)
 have HL:=Z (listV 154 (fun a w=>by go_simp) Pl.iValue Pl.iValue_shr oneV rb T t3 b3 w3 hr3)
 have HSB:=Z hsb
 clear hr3 hk3 HE2 hsb hg3 HG2
 go_wp2_with fail
 refine (U HL).mono ?_
 rintro e w4 ⟨hk4,a,n,c,rfl,hp4⟩
 have hsb4:=hk4.blk (by omega) HSB.out
 have s0:=bC hsb4 0
 have s1:=bC hsb4 1
 have sf:=bF hsb4
 have hzs:=lB hsb4
 simp at s0 s1
 have HK4:=Z (HK3.out.trans hk4)
 have hz34:w.heap.size<=w3.heap.size:=HK3.out.size
 obtain ⟨t4,b4,hr4,hg4⟩:=g_list (cin3 nm) HG3.out (fun h=>h) hp4
 have hr4':=hr4.setNew hz2 1 (.slice a n c)
 have hz4:=hr4'.lt
 have HE4:=Z (needC [8] 1 rfl (by decide) (by decide) _ 1 rb T t4 0 b4 _ (hr4'.alloc (.cells #[.int .i64 8] 129)) (kinds_new _ [8] _ _ rfl) (by omega))
 rw [size_set] at HE4
 have HSB4:=Z (bS hsb4 1 (.slice a n c))
 have HG4:Hid (Gd b sp t4 b4 (∃ its,ItsW (w4.setCell ⟨w2.heap.size,1,none⟩ (.slice a n c)) rb w.heap.size 199 1 shV its (.slice a n c)/\sp=cin3 nm its t4)):=by
  refine hg4.map ?_
  rintro ⟨_,its,h1,h2⟩
  exact ⟨its,(h1.base hz34).setOther hsb4 (by decide) (by decide) _ _,h2⟩
 clear hk4 hp4 hsb4 HL hr4 hr4' hg4 HG3
 go_wp2_with fail
 refine (U HE4).mono ?_
 rintro e w5 ⟨rfl,hr5,hk5⟩
 have hz4':w4.heap.size=(w4.setCell ⟨w2.heap.size,1,none⟩ (.slice a n c)).heap.size:=(size_set _ _ _).symm
 generalize hW4:w4.setCell ⟨w2.heap.size,1,none⟩ (.slice a n c)=W4 at *
 have HK45:=Z (((Keeps.refl rb W4).alloc (.cells #[.int .i64 8] 129)).trans hk5)
 have HK5:Hid (Keeps rb w w5):=by
  unfold Hid
  have:Keeps rb w W4:=by rw [<- hW4];exact HK4.out.setNew (by simpa using hz02) _
  exact this.trans HK45.out
 obtain ⟨t5,b5,hr5,hg5⟩:=g_need2 (k:=8) HG4.out (fun h h8=>by obtain ⟨its,_,h⟩:=h;rw [h,cin3,if_neg h8]) (by decide) hr5
 have hsb5:=HK45.out.blk (by omega) HSB4.out
 have HG5:Hid (Gd b sp t5 b5 (∃ its,ItsW w5 rb w.heap.size 199 1 shV its (.slice a n c)/\sp=some (Pl.st0 105 nm its .nil,t5))):=by
  refine hg5.map ?_
  rintro ⟨⟨its,h1,h3⟩,h8,rfl⟩
  exact ⟨its,h1.keeps HK45.out hz,by rw [h3,cin3,if_pos h8]⟩
 have HSB5:=Z hsb5
 have HR5:=Z hr5
 clear hr5 hk5 hg5 HE4 hsb5 hW4 HG4
 go_wp2_with fail
 go_ret
 refine Gd.post HK5.out HR5.out HG5.out ?_
 rintro ⟨its,h1,h3⟩
 refine ⟨_,h3,hz02,?_⟩
 rw [if_neg (show ¬ (Pl.st0 105 nm its .nil).kind=99 from (by decide:¬ (105:Int)=99)),if_pos (show (Pl.st0 105 nm its .nil).kind=105 from rfl)]
 exact ⟨_,(show w5.heap[w2.heap.size]?=some (.cells #[.string ⟨nm.toArray⟩,.slice a n c] 194) by simpa using HSB5.out),h1⟩
def cde1 (nm:List UInt8)(ts:List Pl.Tok):Option (Pl.St × List Pl.Tok):=match Pl.pWhere ts with|none=>none|some y=>some (Pl.st0 100 nm [] y.1,y.2)
def cde0 (ts:List Pl.Tok):Option (Pl.St × List Pl.Tok):=if (Pl.hd ts).k=1 then cde1 (Pl.hd ts).s ts.tail else none
theorem pDelete_eq (ts:List Pl.Tok):Pl.pDelete ts=if (Pl.hd ts).k=26 then cde0 ts.tail else none:=by
 unfold Pl.pDelete cde0 cde1
 by_cases h21:(Pl.hd ts).k=26
 ·rw [if_pos h21,if_pos h21]
  by_cases h1:(Pl.hd ts.tail).k=1
  ·rw [if_pos h1,if_pos h1]
   cases Pl.pWhere ts.tail.tail <;> rfl
  ·rw [if_neg h1,if_neg h1]
 ·rw [if_neg h21,if_neg h21]
theorem deleteC (rb:Nat)(T ts:List Pl.Tok)(b:Bool)(w:World)(hR:RC w rb T ts 0 b) :
 Calls Tryz.prog 97 #[.pointer (some ⟨rb,0,none⟩)] w (PostS w rb T b (Pl.pDelete ts)):=by
 have hz:=hR.lt
 have HE:=Z (needC [26] 1 rfl (by decide) (by decide) w.heap.size 1 rb T ts 0 b _ (hR.alloc (.cells #[.int .i64 26] 129)) (kinds_new w [26] _ _ rfl) (by omega))
 clear hR
 generalize hsp:Pl.pDelete ts=sp
 rw [pDelete_eq] at hsp
 have HSP:=Z hsp
 clear hsp
 go_enter Tryz.func97,Tryz.ntmps97
 go_wp2_with fail
 refine (U HE).mono ?_
 rintro e w1 ⟨rfl,hr1,hk1⟩
 obtain ⟨t1,b1,hr1,hg1⟩:=g_need (b:=b) (spec:=sp) (P:=True) cde0 (.inl ⟨rfl,trivial⟩) (fun _=>HSP.out.symm) (by decide) hr1
 have HN:=Z (nameC rb T t1 0 b1 w1 hr1)
 have hg2:=g_name cde1 hg1 (fun h=>h.2)
 have HG2:=Z (hg2.map (fun h=>h.2))
 have HK1:=Z (((Keeps.refl rb w).alloc (.cells #[.int .i64 26] 129)).trans hk1)
 clear hr1 hk1 HE hg1 hg2
 go_wp2_with fail
 refine (U HN).mono ?_
 rintro e w2 ⟨rfl,hr2,hk2⟩
 have hz2:=hr2.lt
 have HK2:=Z (HK1.out.trans hk2)
 have hz02:=HK2.out.size
 have HW:=Z (whereC rb T (nx t1 1) (bx t1 1 b1) w2 hr2)
 clear hr2 hk2 HN
 generalize (tokR t1 1).s=nm at *
 go_wp2_with fail
 refine (U HW).mono ?_
 rintro e w3 ⟨hk3,a,rfl,hp3⟩
 have HK3:=Z (HK2.out.trans hk3)
 obtain ⟨t3,b3,hr3,hg3⟩:=g_val (fun x ts=>some (Pl.st0 100 nm [] x,ts)) HG2.out (fun h=>h) hp3
 have HG3:=Z (hg3.map (fun h=>h.2))
 have HR3:=Z hr3
 have hz3:=hr3.lt
 have hz03:=HK3.out.size
 clear hk3 hp3 hr3 hg3 HW HG2
 go_wp2_with fail
 go_ret
 refine Gd.post (HK3.out.alloc _) (HR3.out.alloc _) HG3.out ?_
 rintro ⟨x,h1,h3⟩
 refine ⟨_,h3,hz03,?_⟩
 rw [if_neg (show ¬ (Pl.st0 100 nm [] x).kind=99 from (by decide:¬ (100:Int)=99)),if_neg (show ¬ (Pl.st0 100 nm [] x).kind=105 from (by decide:¬ (100:Int)=105)),if_pos (show (Pl.st0 100 nm [] x).kind=100 from rfl)]
 exact ⟨_,blk_new _ _,h1.keeps ((Keeps.refl _ _).alloc _)⟩
def cup3 (nm:List UInt8)(its:List Pl.It)(ts:List Pl.Tok):Option (Pl.St × List Pl.Tok):=match Pl.pWhere ts with|none=>none|some y=>some (Pl.st0 117 nm its y.1,y.2)
def cup2 (nm:List UInt8)(ts:List Pl.Tok):Option (Pl.St × List Pl.Tok):=match Pl.listed Pl.iSet ts with|none=>none|some y=>cup3 nm y.1 y.2
def cup1 (nm:List UInt8)(ts:List Pl.Tok):Option (Pl.St × List Pl.Tok):=if (Pl.hd ts).k=29 then cup2 nm ts.tail else none
theorem pUpdate_eq (ts:List Pl.Tok):Pl.pUpdate ts=if (Pl.hd ts).k=1 then cup1 (Pl.hd ts).s ts.tail else none:=by
 unfold Pl.pUpdate cup1 cup2
 by_cases h1:(Pl.hd ts).k=1
 ·rw [if_pos h1,if_pos h1]
  by_cases h29:(Pl.hd ts.tail).k=29
  ·rw [if_pos h29,if_pos h29]
   cases hl:Pl.listed Pl.iSet ts.tail.tail with
   | none=>rfl
   | some y =>
    simp only [cup3]
    cases Pl.pWhere y.2 <;> rfl
  ·rw [if_neg h29,if_neg h29]
 ·rw [if_neg h1,if_neg h1]
theorem updateC (rb:Nat)(T ts:List Pl.Tok)(b:Bool)(w:World)(hR:RC w rb T ts 0 b) :
 Calls Tryz.prog 98 #[.pointer (some ⟨rb,0,none⟩)] w (PostS w rb T b (Pl.pUpdate ts)):=by
 have hz:=hR.lt
 have HN:=Z (nameC rb T ts 0 b w hR)
 clear hR
 generalize hsp:Pl.pUpdate ts=sp
 rw [pUpdate_eq] at hsp
 have HG2:=Z ((g_name (b:=b) (b':=b) (spec:=sp) (P:=True) cup1 (.inl ⟨rfl,trivial⟩) (fun _=>hsp.symm)).map (fun h=>h.2))
 clear hsp
 go_enter Tryz.func98,Tryz.ntmps98
 go_wp2_with fail
 refine (U HN).mono ?_
 rintro e w2 ⟨rfl,hr2,hk2⟩
 have hz2:=hr2.lt
 have HK2:=Z hk2
 have hz02:=HK2.out.size
 have HE2:=Z (needC [29] 1 rfl (by decide) (by decide) (w2.heap.size+1) 1 rb T (nx ts 1) 0 (bx ts 1 b) _ ((hr2.alloc (.cells #[.string ⟨(tokR ts 1).s.toArray⟩,.slice none 0 0,.pointer none] 213)).alloc (.cells #[.int .i64 29] 129)) (kinds_new2 w2 _ [29] _ _ rfl) (by omega))
 clear hr2 hk2 HN
 generalize (tokR ts 1).s=nm at *
 go_wp2_with fail
 refine (U HE2).mono ?_
 rintro e w3 ⟨rfl,hr3,hk3⟩
 obtain ⟨t3,b3,hr3,hg3⟩:=g_need (cup2 nm) HG2.out (fun h=>h) (by decide) hr3
 have HG3:=Z (hg3.map (fun h=>h.2))
 have hsb:=hk3.blk (by omega) (bA (blk_new w2 (.cells #[.string ⟨nm.toArray⟩,.slice none 0 0,.pointer none] 213)) (.cells #[.int .i64 29] 129))
 have HK3:=Z (((HK2.out.alloc (.cells #[.string ⟨nm.toArray⟩,.slice none 0 0,.pointer none] 213)).alloc (.cells #[.int .i64 29] 129)).trans hk3)
 have HL:=Z (listS 157 (fun a w=>by go_simp) Pl.iSet Pl.iSet_shr oneS rb T t3 b3 w3 hr3)
 have HSB:=Z hsb
 clear hr3 hk3 HE2 hsb hg3 HG2
 go_wp2_with fail
 refine (U HL).mono ?_
 rintro e w4 ⟨hk4,a,n,c,rfl,hp4⟩
 have hsb4:=hk4.blk (by omega) HSB.out
 have s0:=bC hsb4 0
 have s1:=bC hsb4 1
 have s2:=bC hsb4 2
 have sf:=bF hsb4
 have hzs:=lB hsb4
 simp at s0 s1 s2
 have HK4:=Z (HK3.out.trans hk4)
 have hz34:w.heap.size<=w3.heap.size:=HK3.out.size
 obtain ⟨t4,b4,hr4,hg4⟩:=g_list (cup3 nm) HG3.out (fun h=>h) hp4
 have hr4':=hr4.setNew hz2 1 (.slice a n c)
 have HWh:=Z (whereC rb T t4 b4 _ hr4')
 have HSB4:=Z (bS hsb4 1 (.slice a n c))
 have HG4:Hid (Gd b sp t4 b4 (∃ its,ItsW (w4.setCell ⟨w2.heap.size,1,none⟩ (.slice a n c)) rb w.heap.size 259 2 shS its (.slice a n c)/\sp=cup3 nm its t4)):=by
  refine hg4.map ?_
  rintro ⟨_,its,h1,h2⟩
  exact ⟨its,(h1.base hz34).setOther hsb4 (by decide) (by decide) _ _,h2⟩
 clear hk4 hp4 hsb4 HL hr4 hr4' hg4 HG3
 go_wp2_with fail
 refine (U HWh).mono ?_
 rintro e w5 ⟨hk5,a5,rfl,hp5⟩
 have hz4':w4.heap.size=(w4.setCell ⟨w2.heap.size,1,none⟩ (.slice a n c)).heap.size:=(size_set _ _ _).symm
 generalize hW4:w4.setCell ⟨w2.heap.size,1,none⟩ (.slice a n c)=W4 at *
 have HK45:=Z hk5
 have HK5:Hid (Keeps rb w w5):=by
  unfold Hid
  have:Keeps rb w W4:=by rw [<- hW4];exact HK4.out.setNew (by simpa using hz02) _
  exact this.trans hk5
 have hsb5:=hk5.blk (by omega) HSB4.out
 have s0:=bC hsb5 0
 have s1:=bC hsb5 1
 have s2:=bC hsb5 2
 have sf:=bF hsb5
 have hzs:=lB hsb5
 simp at s0 s1 s2
 have HSP5:Hid (∃ t5 b5,RC w5 rb T t5 0 b5/\Gd b sp t5 b5 (∃ its x,ItsW w5 rb w.heap.size 259 2 shS its (.slice a n c)/\CTree w5 rb x (.pointer a5)/\sp=some (Pl.st0 117 nm its x,t5))):=by
  unfold Hid
  rcases HG4.out with ⟨rfl,its,h1,h2⟩|⟨rfl,rfl,hs⟩
  ·unfold cup3 at h2
   cases hv:Pl.pWhere t4 with
   | none=>rw [hv] at h2 hp5;exact ⟨[],true,hp5,.inr ⟨rfl,rfl,h2⟩⟩
   | some y =>
    obtain ⟨x,r⟩:=y
    rw [hv] at h2 hp5
    exact ⟨r,b4,hp5.2,.inl ⟨rfl,its,x,h1.keeps hk5 hz,hp5.1,h2⟩⟩
  ·cases hv:Pl.pWhere [] with
   | none=>rw [hv] at hp5;exact ⟨[],true,hp5,.inr ⟨rfl,rfl,hs⟩⟩
   | some y =>
    rw [hv] at hp5
    have h2:=hp5.2
    rw [RC0 h2] at h2
    exact ⟨[],true,h2,.inr ⟨rfl,rfl,hs⟩⟩
 have HSB5:=Z hsb5
 clear hk5 hp5 hsb5 hW4 HG4 HWh
 go_wp2_with fail
 go_ret
 obtain ⟨t5,b5,hr5,hg5⟩:=HSP5.out
 refine Gd.post (HK5.out.setNew hz02 _) (hr5.setNew hz2 2 _) hg5 ?_
 rintro ⟨its,x,h1,h2,h3⟩
 refine ⟨_,h3,hz02,?_⟩
 rw [if_neg (show ¬ (Pl.st0 117 nm its x).kind=99 from (by decide:¬ (117:Int)=99)),if_neg (show ¬ (Pl.st0 117 nm its x).kind=105 from (by decide:¬ (117:Int)=105)),if_neg (show ¬ (Pl.st0 117 nm its x).kind=100 from (by decide:¬ (117:Int)=100)),if_pos (show (Pl.st0 117 nm its x).kind=117 from rfl)]
 refine ⟨.slice a n c,.pointer a5,?_,h1.setOther HSB5.out (by decide) (by decide) _ _,h2.setOther HSB5.out (by decide) _ _⟩
 show _=some (Obj.cells #[.string ⟨nm.toArray⟩,.slice a n c,.pointer a5] 213)
 simpa using bS HSB5.out 2 (.pointer a5)
def cs6 (dis all:Bool)(items srcs:List Pl.It)(wh:Pl.T)(keys:List Pl.It)(ts:List Pl.Tok):Option (Pl.St × List Pl.Tok):=Pl.pLast dis all items srcs wh keys ts
def cs5 (dis all:Bool)(items srcs:List Pl.It)(wh:Pl.T)(ts:List Pl.Tok):Option (Pl.St × List Pl.Tok):=match Pl.pKeys ts with|none=>none|some y=>cs6 dis all items srcs wh y.1 y.2
def cs4 (dis all:Bool)(items srcs:List Pl.It)(ts:List Pl.Tok):Option (Pl.St × List Pl.Tok):=match Pl.pWhere ts with|none=>none|some y=>cs5 dis all items srcs y.1 y.2
def cs3 (dis all:Bool)(items:List Pl.It)(ts:List Pl.Tok):Option (Pl.St × List Pl.Tok):=match cap3 (Pl.pSources ts) with|none=>none|some y=>cs4 dis all items y.1 y.2
def cs2 (dis all:Bool)(items:List Pl.It)(ts:List Pl.Tok):Option (Pl.St × List Pl.Tok):=if (Pl.hd ts).k=26 then cs3 dis all items ts.tail else none
theorem pFrom_eq (dis all:Bool)(items:List Pl.It)(ts:List Pl.Tok):Pl.pFrom dis all items ts=cs2 dis all items ts:=by
 unfold Pl.pFrom cs2 cs3
 by_cases h:(Pl.hd ts).k=26
 ·rw [if_pos h,if_pos h]
  cases hs:Pl.pSources ts.tail with
  | none=>rfl
  | some z =>
   simp only [Pl.pFrom1,cap3]
   by_cases h3:3<z.1.length
   ·rw [if_pos h3,if_pos h3]
   ·rw [if_neg h3,if_neg h3]
    simp only [Pl.pTail,cs4]
    cases hw:Pl.pWhere z.2 with
    | none=>rfl
    | some y =>
     simp only [Pl.pTail1,cs5]
     cases hk:Pl.pKeys y.2 with
     | none=>rfl
     | some x=>rfl
 ·rw [if_neg h,if_neg h]
def Sel (w:World)(rb base:Nat)(all:Bool)(items:List Pl.It)(u:Value):Prop:=if all=true then u=.slice none 0 0 else ItsW w rb base 199 1 shV items u
theorem Sel.keeps {w w':World}{rb base:Nat}{all:Bool}{items:List Pl.It}{u:Value}(hk:Keeps rb w w')(hb:rb<base)(h:Sel w rb base all items u):Sel w' rb base all items u:=by
 unfold Sel at *
 cases all
 ·exact ItsW.keeps hk hb h
 ·exact h
theorem Sel.setOther {w:World}{rb base k:Nat}{all:Bool}{items:List Pl.It}{u:Value}{C:Array Value}(h:Sel w rb base all items u)(hk:w.heap[k]?=some (.cells C 229))(o:Nat)(x:Value):Sel (w.setCell ⟨k,o,none⟩ x) rb base all items u:=by
 unfold Sel at *
 cases all
 ·exact ItsW.setOther h hk (by decide) (by decide) o x
 ·exact h
theorem mem_of_RC {w:World}{rb:Nat}{T ts:List Pl.Tok}{d:Nat}{b:Bool}(h:RC w rb T ts d b):∀ t ∈ ts,t ∈ T:=by
 intro t ht
 rw [<- h.drop.1] at ht
 exact List.mem_of_mem_drop ht
theorem lim_eq {T ts:List Pl.Tok}(hm:∀ t ∈ ts,t ∈ T)(hlim:∀ t ∈ T,t.k=2->0<=t.n){z:Int × Int}{r:List Pl.Tok}(h:Pl.pLimit ts=some (z,r)):(if z.1=-1/\(Pl.hd ts).k≠39 then (9223372036854775807:Int) else z.1)=if z.1=-1 then 9223372036854775807 else z.1:=by
 by_cases h39:(Pl.hd ts).k=39
 ·have hne:z.1≠-1:=by
   unfold Pl.pLimit at h
   rw [if_pos h39] at h
   by_cases h2:(Pl.hd ts.tail).k=2
   ·rw [if_pos h2] at h
    have hmem:Pl.hd ts.tail ∈ T:=by
     cases hq:ts.tail with
     | nil=>rw [hq] at h2;cases h2
     | cons q l=>exact hm q (List.mem_of_mem_tail (by rw [hq];simp))
    have h0:=hlim _ hmem h2
    split at h
    ·split at h
     ·cases h;show (Pl.hd ts.tail).n≠-1;omega
     ·cases h
    ·cases h;show (Pl.hd ts.tail).n≠-1;omega
   ·rw [if_neg h2] at h;cases h
  rw [if_neg (fun h=>hne h.1),if_neg hne]
 ·by_cases hz:z.1=-1
  ·rw [if_pos ⟨hz,h39⟩,if_pos hz]
  ·rw [if_neg (fun h=>hz h.1),if_neg hz]
theorem selectionC (rb:Nat)(T ts:List Pl.Tok)(b:Bool)(w:World)(hR:RC w rb T ts 0 b)(hlim:∀ t ∈ T,t.k=2->0<=t.n) :
 Calls Tryz.prog 99 #[.pointer (some ⟨rb,0,none⟩)] w (PostS w rb T b (Pl.pQuery ts)):=by
 have hz:=hR.lt
 have HT:=Z (takeC 31 (by decide) rb T ts 0 b w hR)
 have HLM:=Z hlim
 clear hR hlim
 have hdis:tl ts 31=Pl.pDis ts/\hk ts 31=((Pl.hd ts).k == 31):=by
  unfold tl hk Pl.pDis
  simp
 rw [hdis.1] at HT
 generalize hsp:Pl.pQuery ts=sp
 generalize hk ts 31=dis at *
 have HSP:Hid ((match Pl.pTold (Pl.pDis ts) with|none=>none|some z=>cs2 dis z.1.1 z.1.2 z.2)=sp):=by
  unfold Hid
  rw [<- hsp,hdis.2]
  unfold Pl.pQuery
  cases Pl.pTold (Pl.pDis ts) with
  | none=>rfl
  | some z=>simp only [pFrom_eq]
 generalize Pl.pDis ts=t0 at *
 clear hsp hdis
 go_enter Tryz.func99,Tryz.ntmps99
 go_wp2_with fail
 refine (U HT).mono ?_
 rintro e w1 ⟨rfl,hr1,hk1⟩
 have hz1:=hr1.lt
 have HK1:=Z hk1
 have hz01:=hk1.size
 have HT2:=Z (takeC 17 (by decide) rb T t0 0 b _ (hr1.alloc (.cells #[.bool dis,.slice none 0 0,.slice none 0 0,.pointer none,.slice none 0 0,.int .i64 0,.int .i64 0] 229)))
 clear hr1 hk1 HT
 by_cases h17:(Pl.hd t0).k=17
 ·have hx:=nxn h17
  rw [hx,(nx_yes (b:=b) hx).2.2.2] at HT2
  have HS1:Hid (sp=cs2 dis true [] t0.tail):=by unfold Hid;rw [<- HSP.out];unfold Pl.pTold;rw [if_pos h17]
  clear hx h17
  go_wp2_with fail
  refine (U HT2).mono ?_
  rintro e w4 ⟨rfl,hr4,hk4⟩
  have HKX:=Z ((HK1.out.alloc (.cells #[.bool dis,.slice none 0 0,.slice none 0 0,.pointer none,.slice none 0 0,.int .i64 0,.int .i64 0] 229)).trans hk4)
  have hsb:=hk4.blk (by omega) (blk_new w1 (.cells #[.bool dis,.slice none 0 0,.slice none 0 0,.pointer none,.slice none 0 0,.int .i64 0,.int .i64 0] 229))
  have HSB:=Z hsb
  have HGX:Hid (∃ t3 b3,RC w4 rb T t3 0 b3/\Gd b sp t3 b3 (∃ all items,Sel w4 rb w.heap.size all items (.slice none 0 0)/\sp=cs2 dis all items t3)):=⟨_,_,hr4,.inl ⟨rfl,true,[],rfl,HS1.out⟩⟩
  obtain ⟨t3,b3,hr3,hg3⟩:=HGX.out
  have HG3:=Z hg3
  clear hk4 hsb hr4 HT2 HGX hg3
  have hzW:=hr3.lt
  have hz0W:w.heap.size<=w4.heap.size:=HKX.out.size
  have HE5:=Z (needC [26] 1 rfl (by decide) (by decide) w4.heap.size 1 rb T t3 0 b3 _ (hr3.alloc (.cells #[.int .i64 26] 129)) (kinds_new w4 [26] _ _ rfl) (by omega))
  clear hr3
  go_wp2_with fail
  refine (U HE5).mono ?_
  rintro e w5 ⟨rfl,hr5,hk5⟩
  have hkW5:=((Keeps.refl rb w4).alloc (.cells #[.int .i64 26] 129)).trans hk5
  have HKX5:=Z (HKX.out.trans hkW5)
  have hsb5:=hkW5.blk (by omega) HSB.out
  have HSB5:=Z hsb5
  obtain ⟨t5,b5,hr5,hg5⟩:=g_need2 (k:=26) HG3.out (fun h hn=>by obtain ⟨_,_,_,h⟩:=h;rw [h,cs2,if_neg hn]) (by decide) hr5
  have HG5:Hid (Gd b sp t5 b5 (∃ all items,Sel w5 rb w.heap.size all items (.slice none 0 0)/\sp=cs3 dis all items t5)):=hg5.map (fun h=>by
   obtain ⟨⟨all,items,h1,h2⟩,h3,rfl⟩:=h
   exact ⟨all,items,h1.keeps hkW5 hz,by rw [h2,cs2,if_pos h3]⟩)
  have HSo:=Z (sourcesC rb T t5 b5 w5 hr5)
  clear hr5 hk5 hkW5 hsb5 hg5 HE5
  go_wp2_with fail
  refine (U HSo).mono ?_
  rintro e w6 ⟨hk6,a6,n6,c6,rfl,hp6⟩
  have HKX6:=Z (HKX5.out.trans hk6)
  have hsb6:=hk6.blk (by omega) HSB5.out
  have s0:=bC hsb6 0
  have s1:=bC hsb6 1
  have s2:=bC hsb6 2
  have s3:=bC hsb6 3
  have s4:=bC hsb6 4
  have s5:=bC hsb6 5
  have s6:=bC hsb6 6
  have sf:=bF hsb6
  have hzs:=lB hsb6
  simp at s0 s1 s2 s3 s4 s5 s6
  have HS6:Hid (∃ t6 b6,RC w6 rb T t6 0 b6/\Gd b sp t6 b6 (∃ all items srcs,Sel w6 rb w.heap.size all items (.slice none 0 0)/\ItsW w6 rb w.heap.size 324 4 shX srcs (.slice a6 n6 c6)/\sp=cs4 dis all items srcs t6)):=by
   unfold Hid
   rcases HG5.out with ⟨rfl,all,items,h1,h2⟩|⟨rfl,rfl,hs⟩
   ·unfold cs3 at h2
    cases hv:cap3 (Pl.pSources t5) with
    | none=>rw [hv] at h2 hp6;exact ⟨[],true,hp6,.inr ⟨rfl,rfl,h2⟩⟩
    | some y =>
     obtain ⟨x,r⟩:=y
     rw [hv] at h2 hp6
     exact ⟨r,b5,hp6.2,.inl ⟨rfl,all,items,x,h1.keeps hk6 hz,hp6.1.base HKX5.out.size,h2⟩⟩
   ·cases hv:cap3 (Pl.pSources []) with
    | none=>rw [hv] at hp6;exact ⟨[],true,hp6,.inr ⟨rfl,rfl,hs⟩⟩
    | some y =>
     rw [hv] at hp6
     have h2:=hp6.2
     rw [RC0 h2] at h2
     exact ⟨[],true,h2,.inr ⟨rfl,rfl,hs⟩⟩
  obtain ⟨t6,b6,hr6,hg6⟩:=HS6.out
  have hr6':=hr6.setNew hz1 2 (.slice a6 n6 c6)
  have HW6:=Z (whereC rb T t6 b6 _ hr6')
  have HSB6:=Z (bS hsb6 2 (.slice a6 n6 c6))
  have HKY6:Hid (Keeps rb w (w6.setCell ⟨w1.heap.size,2,none⟩ (.slice a6 n6 c6))):=HKX6.out.setNew hz01 _
  have HG6:Hid (Gd b sp t6 b6 (∃ all items srcs,Sel (w6.setCell ⟨w1.heap.size,2,none⟩ (.slice a6 n6 c6)) rb w.heap.size all items (.slice none 0 0)/\ItsW (w6.setCell ⟨w1.heap.size,2,none⟩ (.slice a6 n6 c6)) rb w.heap.size 324 4 shX srcs (.slice a6 n6 c6)/\sp=cs4 dis all items srcs t6)):=hg6.map (fun h=>by
   obtain ⟨all,items,srcs,h1,h2,h3⟩:=h
   exact ⟨all,items,srcs,h1.setOther hsb6 _ _,h2.setOther hsb6 (by decide) (by decide) _ _,h3⟩)
  clear hk6 hp6 hsb6 hr6 hr6' hg6 HS6 HSo HG5 HG3
  go_wp2_with fail
  refine (U HW6).mono ?_
  rintro e w7 ⟨hk7,a7,rfl,hp7⟩
  have HKX7:=Z (HKY6.out.trans hk7)
  have hsb7:=hk7.blk (by omega) HSB6.out
  clear s0 s1 s2 s3 s4 s5 s6 sf hzs
  have s0:=bC hsb7 0
  have s1:=bC hsb7 1
  have s2:=bC hsb7 2
  have s3:=bC hsb7 3
  have s4:=bC hsb7 4
  have s5:=bC hsb7 5
  have s6:=bC hsb7 6
  have sf:=bF hsb7
  have hzs:=lB hsb7
  simp at s0 s1 s2 s3 s4 s5 s6
  have HS7:Hid (∃ t7 b7,RC w7 rb T t7 0 b7/\Gd b sp t7 b7 (∃ all items srcs wh,Sel w7 rb w.heap.size all items (.slice none 0 0)/\ItsW w7 rb w.heap.size 324 4 shX srcs (.slice a6 n6 c6)/\CTree w7 rb wh (.pointer a7)/\sp=cs5 dis all items srcs wh t7)):=by
   unfold Hid
   rcases HG6.out with ⟨rfl,all,items,srcs,h1,h2,h3⟩|⟨rfl,rfl,hs⟩
   ·unfold cs4 at h3
    cases hv:Pl.pWhere t6 with
    | none=>rw [hv] at h3 hp7;exact ⟨[],true,hp7,.inr ⟨rfl,rfl,h3⟩⟩
    | some y =>
     obtain ⟨x,r⟩:=y
     rw [hv] at h3 hp7
     exact ⟨r,b6,hp7.2,.inl ⟨rfl,all,items,srcs,x,h1.keeps hk7 hz,h2.keeps hk7 hz,hp7.1,h3⟩⟩
   ·cases hv:Pl.pWhere [] with
    | none=>rw [hv] at hp7;exact ⟨[],true,hp7,.inr ⟨rfl,rfl,hs⟩⟩
    | some y =>
     rw [hv] at hp7
     have h2:=hp7.2
     rw [RC0 h2] at h2
     exact ⟨[],true,h2,.inr ⟨rfl,rfl,hs⟩⟩
  obtain ⟨t7,b7,hr7,hg7⟩:=HS7.out
  have hr7':=hr7.setNew hz1 3 (.pointer a7)
  have HO7:=Z (ordersC rb T t7 b7 _ hr7')
  have HSB7:=Z (bS hsb7 3 (.pointer a7))
  have HKY7:Hid (Keeps rb w (w7.setCell ⟨w1.heap.size,3,none⟩ (.pointer a7))):=HKX7.out.setNew hz01 _
  have HG7:Hid (Gd b sp t7 b7 (∃ all items srcs wh,Sel (w7.setCell ⟨w1.heap.size,3,none⟩ (.pointer a7)) rb w.heap.size all items (.slice none 0 0)/\ItsW (w7.setCell ⟨w1.heap.size,3,none⟩ (.pointer a7)) rb w.heap.size 324 4 shX srcs (.slice a6 n6 c6)/\CTree (w7.setCell ⟨w1.heap.size,3,none⟩ (.pointer a7)) rb wh (.pointer a7)/\sp=cs5 dis all items srcs wh t7)):=hg7.map (fun h=>by
   obtain ⟨all,items,srcs,wh,h1,h2,h4,h3⟩:=h
   exact ⟨all,items,srcs,wh,h1.setOther hsb7 _ _,h2.setOther hsb7 (by decide) (by decide) _ _,h4.setOther hsb7 (by decide) _ _,h3⟩)
  clear hk7 hp7 hsb7 hr7 hr7' hg7 HS7 HW6 HG6
  go_wp2_with fail
  refine (U HO7).mono ?_
  rintro e w8 ⟨hk8,a8,n8,c8,rfl,hp8⟩
  have HKX8:=Z (HKY7.out.trans hk8)
  have hsb8:=hk8.blk (by omega) HSB7.out
  clear s0 s1 s2 s3 s4 s5 s6 sf hzs
  have s0:=bC hsb8 0
  have s1:=bC hsb8 1
  have s2:=bC hsb8 2
  have s3:=bC hsb8 3
  have s4:=bC hsb8 4
  have s5:=bC hsb8 5
  have s6:=bC hsb8 6
  have sf:=bF hsb8
  have hzs:=lB hsb8
  simp at s0 s1 s2 s3 s4 s5 s6
  have HS8:Hid (∃ t8 b8,RC w8 rb T t8 0 b8/\Gd b sp t8 b8 (∃ all items srcs wh keys,Sel w8 rb w.heap.size all items (.slice none 0 0)/\ItsW w8 rb w.heap.size 324 4 shX srcs (.slice a6 n6 c6)/\CTree w8 rb wh (.pointer a7)/\ItsW w8 rb w.heap.size 328 2 shO keys (.slice a8 n8 c8)/\sp=Pl.pLast dis all items srcs wh keys t8)):=by
   unfold Hid
   rcases HG7.out with ⟨rfl,all,items,srcs,wh,h1,h2,h4,h3⟩|⟨rfl,rfl,hs⟩
   ·unfold cs5 at h3
    cases hv:Pl.pKeys t7 with
    | none=>rw [hv] at h3 hp8;exact ⟨[],true,hp8,.inr ⟨rfl,rfl,h3⟩⟩
    | some y =>
     obtain ⟨x,r⟩:=y
     rw [hv] at h3 hp8
     exact ⟨r,b7,hp8.2,.inl ⟨rfl,all,items,srcs,wh,x,h1.keeps hk8 hz,h2.keeps hk8 hz,h4.keeps hk8,hp8.1.base HKY7.out.size,h3⟩⟩
   ·cases hv:Pl.pKeys [] with
    | none=>rw [hv] at hp8;exact ⟨[],true,hp8,.inr ⟨rfl,rfl,hs⟩⟩
    | some y =>
     rw [hv] at hp8
     have h2:=hp8.2
     rw [RC0 h2] at h2
     exact ⟨[],true,h2,.inr ⟨rfl,rfl,hs⟩⟩
  obtain ⟨t8,b8,hr8,hg8⟩:=HS8.out
  have hr8':=hr8.setNew hz1 4 (.slice a8 n8 c8)
  have HL8:=Z (limitC rb T t8 b8 _ hr8')
  have HSB8:=Z (bS hsb8 4 (.slice a8 n8 c8))
  have HKY8:Hid (Keeps rb w (w8.setCell ⟨w1.heap.size,4,none⟩ (.slice a8 n8 c8))):=HKX8.out.setNew hz01 _
  have HMM:=Z (mem_of_RC hr8)
  have HG8:Hid (Gd b sp t8 b8 (∃ all items srcs wh keys,Sel (w8.setCell ⟨w1.heap.size,4,none⟩ (.slice a8 n8 c8)) rb w.heap.size all items (.slice none 0 0)/\ItsW (w8.setCell ⟨w1.heap.size,4,none⟩ (.slice a8 n8 c8)) rb w.heap.size 324 4 shX srcs (.slice a6 n6 c6)/\CTree (w8.setCell ⟨w1.heap.size,4,none⟩ (.slice a8 n8 c8)) rb wh (.pointer a7)/\ItsW (w8.setCell ⟨w1.heap.size,4,none⟩ (.slice a8 n8 c8)) rb w.heap.size 328 2 shO keys (.slice a8 n8 c8)/\sp=Pl.pLast dis all items srcs wh keys t8)):=hg8.map (fun h=>by
   obtain ⟨all,items,srcs,wh,keys,h1,h2,h4,h5,h3⟩:=h
   exact ⟨all,items,srcs,wh,keys,h1.setOther hsb8 _ _,h2.setOther hsb8 (by decide) (by decide) _ _,h4.setOther hsb8 (by decide) _ _,h5.setOther hsb8 (by decide) (by decide) _ _,h3⟩)
  clear hk8 hp8 hsb8 hr8 hr8' hg8 HS8 HO7 HG7
  go_wp2_with fail
  refine (U HL8).mono ?_
  rintro e w9 ⟨hk9,l9,o9,rfl,hp9⟩
  have HKX9:=Z (HKY8.out.trans hk9)
  have hsb9:=hk9.blk (by omega) HSB8.out
  clear s0 s1 s2 s3 s4 s5 s6 sf hzs
  have s0:=bC hsb9 0
  have s1:=bC hsb9 1
  have s2:=bC hsb9 2
  have s3:=bC hsb9 3
  have s4:=bC hsb9 4
  have s5:=bC hsb9 5
  have s6:=bC hsb9 6
  have sf:=bF hsb9
  have hzs:=lB hsb9
  simp at s0 s1 s2 s3 s4 s5 s6
  have HSB9:=Z hsb9
  have HS9:Hid (∃ t9 b9,RC w9 rb T t9 0 b9/\Gd b sp t9 b9 (∃ all items srcs wh keys,∃ z:Int × Int,Sel w9 rb w.heap.size all items (.slice none 0 0)/\ItsW w9 rb w.heap.size 324 4 shX srcs (.slice a6 n6 c6)/\CTree w9 rb wh (.pointer a7)/\ItsW w9 rb w.heap.size 328 2 shO keys (.slice a8 n8 c8)/\l9=(if z.1=-1 then 9223372036854775807 else z.1)/\o9=z.2/\sp=some (⟨115,[],items,srcs,wh,keys,dis,all,z.1,z.2⟩,t9))):=by
   unfold Hid
   rcases HG8.out with ⟨rfl,all,items,srcs,wh,keys,h1,h2,h4,h5,h3⟩|⟨rfl,rfl,hs⟩
   ·unfold Pl.pLast at h3
    cases hv:Pl.pLimit t8 with
    | none=>rw [hv] at h3 hp9;exact ⟨[],true,hp9,.inr ⟨rfl,rfl,h3⟩⟩
    | some y =>
     obtain ⟨z,r⟩:=y
     rw [hv] at h3 hp9
     obtain ⟨k1,k2,k3⟩:=hp9
     exact ⟨r,b8,k3,.inl ⟨rfl,all,items,srcs,wh,keys,z,h1.keeps hk9 hz,h2.keeps hk9 hz,h4.keeps hk9,h5.keeps hk9 hz,by rw [k1];exact lim_eq HMM.out HLM.out hv,k2,h3⟩⟩
   ·cases hv:Pl.pLimit [] with
    | none=>rw [hv] at hp9;exact ⟨[],true,hp9,.inr ⟨rfl,rfl,hs⟩⟩
    | some y =>
     rw [hv] at hp9
     have h2:=hp9.2.2
     rw [RC0 h2] at h2
     exact ⟨[],true,h2,.inr ⟨rfl,rfl,hs⟩⟩
  clear hk9 hp9 hsb9 HL8 HG8
  go_wp2_with fail
  go_ret
  obtain ⟨t9,b9,hr9,hg9⟩:=HS9.out
  refine Gd.post ((HKX9.out.setNew hz01 _).setNew hz01 _) ((hr9.setNew hz1 5 _).setNew hz1 6 _) hg9 ?_
  rintro ⟨all,items,srcs,wh,keys,z,h1,h2,h4,h5,h6,h7,h3⟩
  refine ⟨_,h3,hz01,?_⟩
  rw [if_neg (by show ¬ (115:Int)=99;decide),if_neg (by show ¬ (115:Int)=105;decide),if_neg (by show ¬ (115:Int)=100;decide),if_neg (by show ¬ (115:Int)=117;decide)]
  have hb5:=bS HSB9.out 5 (.int .i64 l9)
  refine ⟨.slice none 0 0,.slice a6 n6 c6,.pointer a7,.slice a8 n8 c8,?_,(h1.setOther HSB9.out _ _).setOther hb5 _ _,(h2.setOther HSB9.out (by decide) (by decide) _ _).setOther hb5 (by decide) (by decide) _ _,(h4.setOther HSB9.out (by decide) _ _).setOther hb5 (by decide) _ _,(h5.setOther HSB9.out (by decide) (by decide) _ _).setOther hb5 (by decide) (by decide) _ _⟩
  show _=some (Obj.cells #[.bool dis,.slice none 0 0,.slice a6 n6 c6,.pointer a7,.slice a8 n8 c8,.int .i64 (if z.1=-1 then 9223372036854775807 else z.1),.int .i64 z.2] 229)
  rw [<- h6,<- h7]
  simpa using bS hb5 6 (.int .i64 o9)
 ·have hx:=nxf h17
  rw [hx,(nx_no (b:=b) hx).2.2.2] at HT2
  have HS1:Hid (sp=match Pl.listed Pl.iValue t0 with|none=>none|some y=>cs2 dis false y.1 y.2):=by
   unfold Hid;rw [<- HSP.out];unfold Pl.pTold;rw [if_neg h17]
   cases Pl.listed Pl.iValue t0 <;> rfl
  clear hx h17
  go_wp2_with fail
  refine (U HT2).mono ?_
  rintro e w2 ⟨rfl,hr2,hk2⟩
  have HKX2:=Z ((HK1.out.alloc (.cells #[.bool dis,.slice none 0 0,.slice none 0 0,.pointer none,.slice none 0 0,.int .i64 0,.int .i64 0] 229)).trans hk2)
  have hsb:=hk2.blk (by omega) (blk_new w1 (.cells #[.bool dis,.slice none 0 0,.slice none 0 0,.pointer none,.slice none 0 0,.int .i64 0,.int .i64 0] 229))
  have HSB2:=Z hsb
  have HL2:=Z (listV 154 (fun a w=>by go_simp) Pl.iValue Pl.iValue_shr oneV rb T t0 b w2 hr2)
  clear hk2 hsb hr2 HT2
  go_wp2_with fail
  refine (U HL2).mono ?_
  rintro e w4 ⟨hk4,a4,n4,c4,rfl,hp4⟩
  have hkx4:=HKX2.out.trans hk4
  have hsb4:=hk4.blk (by omega) HSB2.out
  have s1:=bC hsb4 1
  have sf:=bF hsb4
  have hzs:=lB hsb4
  simp at s1
  have HKX:Hid (Keeps rb w (w4.setCell ⟨w1.heap.size,1,none⟩ (.slice a4 n4 c4))):=hkx4.setNew hz01 _
  have HSB:Hid ((w4.setCell ⟨w1.heap.size,1,none⟩ (.slice a4 n4 c4)).heap[w1.heap.size]?=some (.cells #[.bool dis,.slice a4 n4 c4,.slice none 0 0,.pointer none,.slice none 0 0,.int .i64 0,.int .i64 0] 229)):=by
   have h:=bS hsb4 1 (.slice a4 n4 c4)
   unfold Hid
   rw [h];rfl
  have HGX:Hid (∃ t3 b3,RC (w4.setCell ⟨w1.heap.size,1,none⟩ (.slice a4 n4 c4)) rb T t3 0 b3/\Gd b sp t3 b3 (∃ all items,Sel (w4.setCell ⟨w1.heap.size,1,none⟩ (.slice a4 n4 c4)) rb w.heap.size all items (.slice a4 n4 c4)/\sp=cs2 dis all items t3)):=by
   obtain ⟨t3,b3,hr3,hg3⟩:=g_list (b:=b) (b':=b) (ts:=t0) (spec:=sp) (P:=True) (fun its ts=>cs2 dis false its ts) (.inl ⟨rfl,trivial⟩) (fun _=>HS1.out) hp4
   refine ⟨t3,b3,hr3.setNew hz1 1 _,hg3.map ?_⟩
   rintro ⟨_,its,h1,h2⟩
   exact ⟨false,its,(h1.base HKX2.out.size).setOther hsb4 (by decide) (by decide) _ _,h2⟩
  clear hk4 hkx4 hsb4 hp4 HL2
  obtain ⟨t3,b3,hr3,hg3⟩:=HGX.out
  have HG3:=Z hg3
  clear HGX hg3
  have hzW:=hr3.lt
  have hz0W:w.heap.size<=(w4.setCell ⟨w1.heap.size,1,none⟩ (.slice a4 n4 c4)).heap.size:=HKX.out.size
  have HE5:=Z (needC [26] 1 rfl (by decide) (by decide) (w4.setCell ⟨w1.heap.size,1,none⟩ (.slice a4 n4 c4)).heap.size 1 rb T t3 0 b3 _ (hr3.alloc (.cells #[.int .i64 26] 129)) (kinds_new (w4.setCell ⟨w1.heap.size,1,none⟩ (.slice a4 n4 c4)) [26] _ _ rfl) (by omega))
  rw [size_set] at HE5
  clear hz0W hzW
  clear hr3
  go_wp2_with fail
  refine (U HE5).mono ?_
  rintro e w5 ⟨rfl,hr5,hk5⟩
  have hkW5:=((Keeps.refl rb (w4.setCell ⟨w1.heap.size,1,none⟩ (.slice a4 n4 c4))).alloc (.cells #[.int .i64 26] 129)).trans hk5
  have HKX5:=Z (HKX.out.trans hkW5)
  have hsb5:=hkW5.blk (by omega) HSB.out
  have HSB5:=Z hsb5
  obtain ⟨t5,b5,hr5,hg5⟩:=g_need2 (k:=26) HG3.out (fun h hn=>by obtain ⟨_,_,_,h⟩:=h;rw [h,cs2,if_neg hn]) (by decide) hr5
  have HG5:Hid (Gd b sp t5 b5 (∃ all items,Sel w5 rb w.heap.size all items (.slice a4 n4 c4)/\sp=cs3 dis all items t5)):=hg5.map (fun h=>by
   obtain ⟨⟨all,items,h1,h2⟩,h3,rfl⟩:=h
   exact ⟨all,items,h1.keeps hkW5 hz,by rw [h2,cs2,if_pos h3]⟩)
  have HSo:=Z (sourcesC rb T t5 b5 w5 hr5)
  clear hr5 hk5 hkW5 hsb5 hg5 HE5
  go_wp2_with fail
  refine (U HSo).mono ?_
  rintro e w6 ⟨hk6,a6,n6,c6,rfl,hp6⟩
  have HKX6:=Z (HKX5.out.trans hk6)
  have hsb6:=hk6.blk (by omega) HSB5.out
  have s0:=bC hsb6 0
  have s1:=bC hsb6 1
  have s2:=bC hsb6 2
  have s3:=bC hsb6 3
  have s4:=bC hsb6 4
  have s5:=bC hsb6 5
  have s6:=bC hsb6 6
  have sf:=bF hsb6
  have hzs:=lB hsb6
  simp at s0 s1 s2 s3 s4 s5 s6
  have HS6:Hid (∃ t6 b6,RC w6 rb T t6 0 b6/\Gd b sp t6 b6 (∃ all items srcs,Sel w6 rb w.heap.size all items (.slice a4 n4 c4)/\ItsW w6 rb w.heap.size 324 4 shX srcs (.slice a6 n6 c6)/\sp=cs4 dis all items srcs t6)):=by
   unfold Hid
   rcases HG5.out with ⟨rfl,all,items,h1,h2⟩|⟨rfl,rfl,hs⟩
   ·unfold cs3 at h2
    cases hv:cap3 (Pl.pSources t5) with
    | none=>rw [hv] at h2 hp6;exact ⟨[],true,hp6,.inr ⟨rfl,rfl,h2⟩⟩
    | some y =>
     obtain ⟨x,r⟩:=y
     rw [hv] at h2 hp6
     exact ⟨r,b5,hp6.2,.inl ⟨rfl,all,items,x,h1.keeps hk6 hz,hp6.1.base HKX5.out.size,h2⟩⟩
   ·cases hv:cap3 (Pl.pSources []) with
    | none=>rw [hv] at hp6;exact ⟨[],true,hp6,.inr ⟨rfl,rfl,hs⟩⟩
    | some y =>
     rw [hv] at hp6
     have h2:=hp6.2
     rw [RC0 h2] at h2
     exact ⟨[],true,h2,.inr ⟨rfl,rfl,hs⟩⟩
  obtain ⟨t6,b6,hr6,hg6⟩:=HS6.out
  have hr6':=hr6.setNew hz1 2 (.slice a6 n6 c6)
  have HW6:=Z (whereC rb T t6 b6 _ hr6')
  have HSB6:=Z (bS hsb6 2 (.slice a6 n6 c6))
  have HKY6:Hid (Keeps rb w (w6.setCell ⟨w1.heap.size,2,none⟩ (.slice a6 n6 c6))):=HKX6.out.setNew hz01 _
  have HG6:Hid (Gd b sp t6 b6 (∃ all items srcs,Sel (w6.setCell ⟨w1.heap.size,2,none⟩ (.slice a6 n6 c6)) rb w.heap.size all items (.slice a4 n4 c4)/\ItsW (w6.setCell ⟨w1.heap.size,2,none⟩ (.slice a6 n6 c6)) rb w.heap.size 324 4 shX srcs (.slice a6 n6 c6)/\sp=cs4 dis all items srcs t6)):=hg6.map (fun h=>by
   obtain ⟨all,items,srcs,h1,h2,h3⟩:=h
   exact ⟨all,items,srcs,h1.setOther hsb6 _ _,h2.setOther hsb6 (by decide) (by decide) _ _,h3⟩)
  clear hk6 hp6 hsb6 hr6 hr6' hg6 HS6 HSo HG5 HG3
  go_wp2_with fail
  refine (U HW6).mono ?_
  rintro e w7 ⟨hk7,a7,rfl,hp7⟩
  have HKX7:=Z (HKY6.out.trans hk7)
  have hsb7:=hk7.blk (by omega) HSB6.out
  clear s0 s1 s2 s3 s4 s5 s6 sf hzs
  have s0:=bC hsb7 0
  have s1:=bC hsb7 1
  have s2:=bC hsb7 2
  have s3:=bC hsb7 3
  have s4:=bC hsb7 4
  have s5:=bC hsb7 5
  have s6:=bC hsb7 6
  have sf:=bF hsb7
  have hzs:=lB hsb7
  simp at s0 s1 s2 s3 s4 s5 s6
  have HS7:Hid (∃ t7 b7,RC w7 rb T t7 0 b7/\Gd b sp t7 b7 (∃ all items srcs wh,Sel w7 rb w.heap.size all items (.slice a4 n4 c4)/\ItsW w7 rb w.heap.size 324 4 shX srcs (.slice a6 n6 c6)/\CTree w7 rb wh (.pointer a7)/\sp=cs5 dis all items srcs wh t7)):=by
   unfold Hid
   rcases HG6.out with ⟨rfl,all,items,srcs,h1,h2,h3⟩|⟨rfl,rfl,hs⟩
   ·unfold cs4 at h3
    cases hv:Pl.pWhere t6 with
    | none=>rw [hv] at h3 hp7;exact ⟨[],true,hp7,.inr ⟨rfl,rfl,h3⟩⟩
    | some y =>
     obtain ⟨x,r⟩:=y
     rw [hv] at h3 hp7
     exact ⟨r,b6,hp7.2,.inl ⟨rfl,all,items,srcs,x,h1.keeps hk7 hz,h2.keeps hk7 hz,hp7.1,h3⟩⟩
   ·cases hv:Pl.pWhere [] with
    | none=>rw [hv] at hp7;exact ⟨[],true,hp7,.inr ⟨rfl,rfl,hs⟩⟩
    | some y =>
     rw [hv] at hp7
     have h2:=hp7.2
     rw [RC0 h2] at h2
     exact ⟨[],true,h2,.inr ⟨rfl,rfl,hs⟩⟩
  obtain ⟨t7,b7,hr7,hg7⟩:=HS7.out
  have hr7':=hr7.setNew hz1 3 (.pointer a7)
  have HO7:=Z (ordersC rb T t7 b7 _ hr7')
  have HSB7:=Z (bS hsb7 3 (.pointer a7))
  have HKY7:Hid (Keeps rb w (w7.setCell ⟨w1.heap.size,3,none⟩ (.pointer a7))):=HKX7.out.setNew hz01 _
  have HG7:Hid (Gd b sp t7 b7 (∃ all items srcs wh,Sel (w7.setCell ⟨w1.heap.size,3,none⟩ (.pointer a7)) rb w.heap.size all items (.slice a4 n4 c4)/\ItsW (w7.setCell ⟨w1.heap.size,3,none⟩ (.pointer a7)) rb w.heap.size 324 4 shX srcs (.slice a6 n6 c6)/\CTree (w7.setCell ⟨w1.heap.size,3,none⟩ (.pointer a7)) rb wh (.pointer a7)/\sp=cs5 dis all items srcs wh t7)):=hg7.map (fun h=>by
   obtain ⟨all,items,srcs,wh,h1,h2,h4,h3⟩:=h
   exact ⟨all,items,srcs,wh,h1.setOther hsb7 _ _,h2.setOther hsb7 (by decide) (by decide) _ _,h4.setOther hsb7 (by decide) _ _,h3⟩)
  clear hk7 hp7 hsb7 hr7 hr7' hg7 HS7 HW6 HG6
  go_wp2_with fail
  refine (U HO7).mono ?_
  rintro e w8 ⟨hk8,a8,n8,c8,rfl,hp8⟩
  have HKX8:=Z (HKY7.out.trans hk8)
  have hsb8:=hk8.blk (by omega) HSB7.out
  clear s0 s1 s2 s3 s4 s5 s6 sf hzs
  have s0:=bC hsb8 0
  have s1:=bC hsb8 1
  have s2:=bC hsb8 2
  have s3:=bC hsb8 3
  have s4:=bC hsb8 4
  have s5:=bC hsb8 5
  have s6:=bC hsb8 6
  have sf:=bF hsb8
  have hzs:=lB hsb8
  simp at s0 s1 s2 s3 s4 s5 s6
  have HS8:Hid (∃ t8 b8,RC w8 rb T t8 0 b8/\Gd b sp t8 b8 (∃ all items srcs wh keys,Sel w8 rb w.heap.size all items (.slice a4 n4 c4)/\ItsW w8 rb w.heap.size 324 4 shX srcs (.slice a6 n6 c6)/\CTree w8 rb wh (.pointer a7)/\ItsW w8 rb w.heap.size 328 2 shO keys (.slice a8 n8 c8)/\sp=Pl.pLast dis all items srcs wh keys t8)):=by
   unfold Hid
   rcases HG7.out with ⟨rfl,all,items,srcs,wh,h1,h2,h4,h3⟩|⟨rfl,rfl,hs⟩
   ·unfold cs5 at h3
    cases hv:Pl.pKeys t7 with
    | none=>rw [hv] at h3 hp8;exact ⟨[],true,hp8,.inr ⟨rfl,rfl,h3⟩⟩
    | some y =>
     obtain ⟨x,r⟩:=y
     rw [hv] at h3 hp8
     exact ⟨r,b7,hp8.2,.inl ⟨rfl,all,items,srcs,wh,x,h1.keeps hk8 hz,h2.keeps hk8 hz,h4.keeps hk8,hp8.1.base HKY7.out.size,h3⟩⟩
   ·cases hv:Pl.pKeys [] with
    | none=>rw [hv] at hp8;exact ⟨[],true,hp8,.inr ⟨rfl,rfl,hs⟩⟩
    | some y =>
     rw [hv] at hp8
     have h2:=hp8.2
     rw [RC0 h2] at h2
     exact ⟨[],true,h2,.inr ⟨rfl,rfl,hs⟩⟩
  obtain ⟨t8,b8,hr8,hg8⟩:=HS8.out
  have hr8':=hr8.setNew hz1 4 (.slice a8 n8 c8)
  have HL8:=Z (limitC rb T t8 b8 _ hr8')
  have HSB8:=Z (bS hsb8 4 (.slice a8 n8 c8))
  have HKY8:Hid (Keeps rb w (w8.setCell ⟨w1.heap.size,4,none⟩ (.slice a8 n8 c8))):=HKX8.out.setNew hz01 _
  have HMM:=Z (mem_of_RC hr8)
  have HG8:Hid (Gd b sp t8 b8 (∃ all items srcs wh keys,Sel (w8.setCell ⟨w1.heap.size,4,none⟩ (.slice a8 n8 c8)) rb w.heap.size all items (.slice a4 n4 c4)/\ItsW (w8.setCell ⟨w1.heap.size,4,none⟩ (.slice a8 n8 c8)) rb w.heap.size 324 4 shX srcs (.slice a6 n6 c6)/\CTree (w8.setCell ⟨w1.heap.size,4,none⟩ (.slice a8 n8 c8)) rb wh (.pointer a7)/\ItsW (w8.setCell ⟨w1.heap.size,4,none⟩ (.slice a8 n8 c8)) rb w.heap.size 328 2 shO keys (.slice a8 n8 c8)/\sp=Pl.pLast dis all items srcs wh keys t8)):=hg8.map (fun h=>by
   obtain ⟨all,items,srcs,wh,keys,h1,h2,h4,h5,h3⟩:=h
   exact ⟨all,items,srcs,wh,keys,h1.setOther hsb8 _ _,h2.setOther hsb8 (by decide) (by decide) _ _,h4.setOther hsb8 (by decide) _ _,h5.setOther hsb8 (by decide) (by decide) _ _,h3⟩)
  clear hk8 hp8 hsb8 hr8 hr8' hg8 HS8 HO7 HG7
  go_wp2_with fail
  refine (U HL8).mono ?_
  rintro e w9 ⟨hk9,l9,o9,rfl,hp9⟩
  have HKX9:=Z (HKY8.out.trans hk9)
  have hsb9:=hk9.blk (by omega) HSB8.out
  clear s0 s1 s2 s3 s4 s5 s6 sf hzs
  have s0:=bC hsb9 0
  have s1:=bC hsb9 1
  have s2:=bC hsb9 2
  have s3:=bC hsb9 3
  have s4:=bC hsb9 4
  have s5:=bC hsb9 5
  have s6:=bC hsb9 6
  have sf:=bF hsb9
  have hzs:=lB hsb9
  simp at s0 s1 s2 s3 s4 s5 s6
  have HSB9:=Z hsb9
  have HS9:Hid (∃ t9 b9,RC w9 rb T t9 0 b9/\Gd b sp t9 b9 (∃ all items srcs wh keys,∃ z:Int × Int,Sel w9 rb w.heap.size all items (.slice a4 n4 c4)/\ItsW w9 rb w.heap.size 324 4 shX srcs (.slice a6 n6 c6)/\CTree w9 rb wh (.pointer a7)/\ItsW w9 rb w.heap.size 328 2 shO keys (.slice a8 n8 c8)/\l9=(if z.1=-1 then 9223372036854775807 else z.1)/\o9=z.2/\sp=some (⟨115,[],items,srcs,wh,keys,dis,all,z.1,z.2⟩,t9))):=by
   unfold Hid
   rcases HG8.out with ⟨rfl,all,items,srcs,wh,keys,h1,h2,h4,h5,h3⟩|⟨rfl,rfl,hs⟩
   ·unfold Pl.pLast at h3
    cases hv:Pl.pLimit t8 with
    | none=>rw [hv] at h3 hp9;exact ⟨[],true,hp9,.inr ⟨rfl,rfl,h3⟩⟩
    | some y =>
     obtain ⟨z,r⟩:=y
     rw [hv] at h3 hp9
     obtain ⟨k1,k2,k3⟩:=hp9
     exact ⟨r,b8,k3,.inl ⟨rfl,all,items,srcs,wh,keys,z,h1.keeps hk9 hz,h2.keeps hk9 hz,h4.keeps hk9,h5.keeps hk9 hz,by rw [k1];exact lim_eq HMM.out HLM.out hv,k2,h3⟩⟩
   ·cases hv:Pl.pLimit [] with
    | none=>rw [hv] at hp9;exact ⟨[],true,hp9,.inr ⟨rfl,rfl,hs⟩⟩
    | some y =>
     rw [hv] at hp9
     have h2:=hp9.2.2
     rw [RC0 h2] at h2
     exact ⟨[],true,h2,.inr ⟨rfl,rfl,hs⟩⟩
  clear hk9 hp9 hsb9 HL8 HG8
  go_wp2_with fail
  go_ret
  obtain ⟨t9,b9,hr9,hg9⟩:=HS9.out
  refine Gd.post ((HKX9.out.setNew hz01 _).setNew hz01 _) ((hr9.setNew hz1 5 _).setNew hz1 6 _) hg9 ?_
  rintro ⟨all,items,srcs,wh,keys,z,h1,h2,h4,h5,h6,h7,h3⟩
  refine ⟨_,h3,hz01,?_⟩
  rw [if_neg (by show ¬ (115:Int)=99;decide),if_neg (by show ¬ (115:Int)=105;decide),if_neg (by show ¬ (115:Int)=100;decide),if_neg (by show ¬ (115:Int)=117;decide)]
  have hb5:=bS HSB9.out 5 (.int .i64 l9)
  refine ⟨.slice a4 n4 c4,.slice a6 n6 c6,.pointer a7,.slice a8 n8 c8,?_,(h1.setOther HSB9.out _ _).setOther hb5 _ _,(h2.setOther HSB9.out (by decide) (by decide) _ _).setOther hb5 (by decide) (by decide) _ _,(h4.setOther HSB9.out (by decide) _ _).setOther hb5 (by decide) _ _,(h5.setOther HSB9.out (by decide) (by decide) _ _).setOther hb5 (by decide) (by decide) _ _⟩
  show _=some (Obj.cells #[.bool dis,.slice a4 n4 c4,.slice a6 n6 c6,.pointer a7,.slice a8 n8 c8,.int .i64 (if z.1=-1 then 9223372036854775807 else z.1),.int .i64 z.2] 229)
  rw [<- h6,<- h7]
  simpa using bS hb5 6 (.int .i64 o9)
def kSingle:List Nat:=[7,46,47,45]
theorem strs_single (w:World):strsAt (w.alloc (.cells #[.string { data:=#[40] },.string { data:=#[84,82,85,69] },.string { data:=#[70,65,76,83,69] },.string { data:=#[78,85,76,76] }] 9)) w.heap.size kSingle :=
 strs_new w kSingle _ _ rfl (by decide)
theorem single_open (d:Nat)(v:Pl.Lv)(hd20:d<=20)
 (H:d<20->∀ rb s ts w,RT w rb s ts (d+1) false->Calls Tryz.prog 185 #[.pointer (some ⟨rb,0,none⟩),.int .i64 0] w (PostV w rb s (d+1) (v.val ts)))
 (H0:d=20->∀ ts,v.val ts=none) (rb:Nat) (s:ByteArray) (ts:List Pl.Tok) (w:World) (hR:RT w rb s ts d false) (hk:(Pl.hd ts).k=7) :
 Calls Tryz.prog 308 #[.pointer (some ⟨rb,0,none⟩)] w (PostV w rb s d (v.single ts)):=by
 have hrb:=hR.lt
 have HF:=Z (firstN kSingle 4 rfl w.heap.size 4 rb s ts d false _ (hR.alloc (.cells #[.string { data:=#[40] },.string { data:=#[84,82,85,69] },.string { data:=#[70,65,76,83,69] },.string { data:=#[78,85,76,76] }] 9)) (strs_single w) (by omega) (by omega))
 have hf:Hid (fstI ts false kSingle 0=0/\fstTo ts false kSingle=ts.tail):=by simp [Hid,fstI,fstTo,kSingle,isK,hk]
 have HK:=Z hk
 have HH:=Z H
 have HH0:=Z H0
 clear hR hk H H0
 go_enter Tryz.func308,Tryz.ntmps308
 go_wp2_with fail
 refine (U HF).mono ?_
 rintro e w1 ⟨rfl,hr1,hk1⟩
 rw [hf.out.1]
 rw [hf.out.2] at hr1
 have HR1:=Z hr1
 have HK1:=Z hk1
 clear hr1 hk1 HF hf
 go_wp2_with fail
 refine (deeperT rb s ts.tail d (by omega) false w1 HR1.out).mono ?_
 rintro e w2 ⟨rfl,hr2,hk2⟩
 by_cases h20:d<20
 ·have hdp:dpB d false=false:=by simp [dpB];omega
  rw [hdp] at hr2 ⊢
  have HR2:=Z hr2
  have HK2:=Z (((Keeps.refl rb w).alloc _).trans (HK1.out.trans hk2))
  clear hr2 hk2 hdp HR1 HK1
  go_wp2_with fail
  refine (U HH h20 rb s ts.tail w2 HR2.out).mono ?_
  rintro e w3 ⟨hk3,a,rfl,hp⟩
  have HK3:=Z (HK2.out.trans hk3)
  clear hk3 HK2 HR2 HH HH0
  cases hv:v.val ts.tail with
  | none =>
   rw [hv] at hp
   obtain ⟨ts',d',hd1,hd2,hr3⟩:=hp
   obtain ⟨r2,r3,rf⟩:=hr3.c
   have HR3:=Z (hr3.deep (d' - 1) ((d':Int) - 1) (by omega))
   clear hr3
   have HV:Hid (v.single ts=none):=by unfold Pl.Lv.single Pl.pSingle;rw [HK.out,if_pos rfl,hv];rfl
   clear hv
   go_wp2_with fail
   refine (needT 8 (by decide) (by decide) rb s ts' (d' - 1) true _ rfl _ HR3.out).mono ?_
   rintro e w4 ⟨rfl,hr4,hk4⟩
   rw [isK_true,toK_true] at hr4
   go_wp2_with fail
   go_ret
   exact PostV.none_ HV.out ((HK3.out.set _ _).trans hk4) (by omega) (by omega) hr4
  | some y =>
   obtain ⟨x,r⟩:=y
   rw [hv] at hp
   obtain ⟨hx,hr3⟩:=hp
   obtain ⟨r2,r3,rf⟩:=hr3.c
   have HR3:=Z (hr3.deep d (d:Int) rfl)
   have HX:=Z hx
   clear hr3 hx
   have HV:Hid (v.single ts=if (Pl.hd r).k=8 then some (x,r.tail) else none):=by unfold Pl.Lv.single Pl.pSingle;rw [HK.out,if_pos rfl,hv];rfl
   clear hv
   go_wp2_with fail
   refine (needT 8 (by decide) (by decide) rb s r d false _ rfl _ HR3.out).mono ?_
   rintro e w4 ⟨rfl,hr4,hk4⟩
   have HX4:=Z (HX.out.keeps (((Keeps.refl _ _).set 2 _).trans hk4))
   have HK4:=Z ((HK3.out.set 2 _).trans hk4)
   go_wp2_with fail
   go_ret
   by_cases h8:(Pl.hd r).k=8
   ·have hi:isK r 8 false=true:=by simp [isK,h8]
    rw [hi] at hr4
    have ht:toK r 8 false=r.tail:=by unfold toK;rw [hi];rfl
    rw [ht] at hr4
    exact PostV.some_ (by rw [HV.out,if_pos h8]) HK4.out HX4.out hr4
   ·have hi:isK r 8 false=false:=by simp [isK,h8]
    rw [hi] at hr4
    exact PostV.none_ (by rw [HV.out,if_neg h8]) HK4.out (Nat.le_refl _) (by omega) hr4
 ·have hdp:dpB d false=true:=by simp [dpB];omega
  rw [hdp] at hr2 ⊢
  have HV:Hid (v.single ts=none):=by unfold Pl.Lv.single Pl.pSingle;rw [HK.out,if_pos rfl,HH0.out (by omega)];rfl
  have HR2:=Z hr2
  have HK2:=Z (((Keeps.refl rb w).alloc _).trans (HK1.out.trans hk2))
  clear hr2 hk2 hdp HR1 HK1 HH HH0
  go_wp2_with fail
  go_ret
  exact PostV.none_ HV.out HK2.out (by omega) (by omega) HR2.out
theorem single_word (d:Nat)(v:Pl.Lv)(rb:Nat)(s:ByteArray)(ts:List Pl.Tok)(w:World)(hR:RT w rb s ts d false)(hk:(Pl.hd ts).k=46\/(Pl.hd ts).k=47\/(Pl.hd ts).k=45) :
 Calls Tryz.prog 308 #[.pointer (some ⟨rb,0,none⟩)] w (PostV w rb s d (v.single ts)):=by
 have hrb:=hR.lt
 have HF:=Z (firstN kSingle 4 rfl w.heap.size 4 rb s ts d false _ (hR.alloc (.cells #[.string { data:=#[40] },.string { data:=#[84,82,85,69] },.string { data:=#[70,65,76,83,69] },.string { data:=#[78,85,76,76] }] 9)) (strs_single w) (by omega) (by omega))
 have hto:Hid (fstTo ts false kSingle=ts.tail):=by rcases hk with hk|hk|hk <;> simp [Hid,fstTo,kSingle,isK,hk]
 rcases hk with hk|hk|hk
 ·have hf:Hid (fstI ts false kSingle 0=1):=by simp [Hid,fstI,kSingle,isK,hk]
  have HV:Hid (v.single ts=some (Pl.tLit 3 1 [],ts.tail)):=by simp [Hid,Pl.Lv.single,Pl.pSingle,hk]
  clear hR hk
  go_enter Tryz.func308,Tryz.ntmps308
  go_wp2_with fail
  refine (U HF).mono ?_
  rintro e w1 ⟨rfl,hr1,hk1⟩
  rw [hf.out]
  rw [hto.out] at hr1
  have HR1:=Z hr1
  have HK1:=Z (((Keeps.refl rb w).alloc _).trans hk1)
  clear hr1 hk1 HF hf hto
  go_wp2_with fail
  go_ret
  exact PostV.some_ HV.out (HK1.out.alloc _) (RTree.lit HR1.out.lt 3 1 [] (blk_new _ _)) (HR1.out.alloc _)
 ·have hf:Hid (fstI ts false kSingle 0=2):=by simp [Hid,fstI,kSingle,isK,hk]
  have HV:Hid (v.single ts=some (Pl.tLit 3 0 [],ts.tail)):=by simp [Hid,Pl.Lv.single,Pl.pSingle,hk]
  clear hR hk
  go_enter Tryz.func308,Tryz.ntmps308
  go_wp2_with fail
  refine (U HF).mono ?_
  rintro e w1 ⟨rfl,hr1,hk1⟩
  rw [hf.out]
  rw [hto.out] at hr1
  have HR1:=Z hr1
  have HK1:=Z (((Keeps.refl rb w).alloc _).trans hk1)
  clear hr1 hk1 HF hf hto
  go_wp2_with fail
  go_ret
  exact PostV.some_ HV.out (HK1.out.alloc _) (RTree.lit HR1.out.lt 3 0 [] (blk_new _ _)) (HR1.out.alloc _)
 ·have hf:Hid (fstI ts false kSingle 0=3):=by simp [Hid,fstI,kSingle,isK,hk]
  have HV:Hid (v.single ts=some (Pl.tLit 0 0 [],ts.tail)):=by simp [Hid,Pl.Lv.single,Pl.pSingle,hk]
  clear hR hk
  go_enter Tryz.func308,Tryz.ntmps308
  go_wp2_with fail
  refine (U HF).mono ?_
  rintro e w1 ⟨rfl,hr1,hk1⟩
  rw [hf.out]
  rw [hto.out] at hr1
  have HR1:=Z hr1
  have HK1:=Z (((Keeps.refl rb w).alloc _).trans hk1)
  clear hr1 hk1 HF hf hto
  go_wp2_with fail
  go_ret
  exact PostV.some_ HV.out (HK1.out.alloc _) (RTree.lit HR1.out.lt 0 0 [] (blk_new _ _)) (HR1.out.alloc _)
theorem single_rest (d:Nat)(hd:d<=21)(v:Pl.Lv)(rb:Nat)(s:ByteArray)(ts:List Pl.Tok)(b:Bool)(w:World)(hR:RT w rb s ts d b)(hk:b=true\/((Pl.hd ts).k≠7/\(Pl.hd ts).k≠46/\(Pl.hd ts).k≠47/\(Pl.hd ts).k≠45)) :
 Calls Tryz.prog 308 #[.pointer (some ⟨rb,0,none⟩)] w (PostV w rb s d (bsp b (v.single ts))):=by
 have hrb:=hR.lt
 have HF:=Z (firstN kSingle 4 rfl w.heap.size 4 rb s ts d b _ (hR.alloc (.cells #[.string { data:=#[40] },.string { data:=#[84,82,85,69] },.string { data:=#[70,65,76,83,69] },.string { data:=#[78,85,76,76] }] 9)) (strs_single w) (by omega) (by omega))
 have hf:Hid (fstI ts b kSingle 0=-1/\fstTo ts b kSingle=ts):=by
  rcases hk with rfl|hk
  ·simp [Hid,fstI,fstTo,kSingle,isK]
  ·simp [Hid,fstI,fstTo,kSingle,isK,hk]
 have HK:=Z hk
 clear hR hk
 go_enter Tryz.func308,Tryz.ntmps308
 go_wp2_with fail
 refine (U HF).mono ?_
 rintro e w1 ⟨rfl,hr1,hk1⟩
 rw [hf.out.1]
 rw [hf.out.2] at hr1
 have HK1:=Z (((Keeps.refl rb w).alloc _).trans hk1)
 obtain ⟨p,hp,hs,hr,ht⟩:=hr1
 have HT:=Z ht
 have hrb1:rb<w1.heap.size:=lB hr
 obtain ⟨g0,g1,g2,g3,gf⟩:=hr.c
 have HR1:=Z hr
 clear hk1 HF hf ht hr
 go_upto_region 16 with fail
 go_cut [5,6] (fun s5 s6 wx=>∃ tb q:Nat,s5=.pointer (some ⟨tb,0,none⟩)/\s6=.int .i64 q/\p<=q/\q<=s.size/\Hid (Pl.from_ s q=(Pl.look (Pl.from_ s p)).2)/\laidTok w1 wx tb (Pl.look (Pl.from_ s p)).1)
 case first =>
  go_region_with (go_at_call 77;refine (look_any s p _ hp hs).mono ?_;rintro e w1 ⟨q,rfl,hpq,hqs,hq,hb1⟩;have HQ:Hid (Pl.from_ s q=(Pl.look (Pl.from_ s p)).2):=hq;clear hq;obtain ⟨c1,f1⟩:=bcell hb1;have z1:=hb1.size;rw [Pl.refTok_eq])
  all_goals
   go_wp2_with fail
   go_meet
   first|exact ⟨_,q,rfl,rfl,hpq,hqs,HQ,laid_late _ hb1⟩|exact ⟨_,q,rfl,rfl,hpq,hqs,HQ,laid_early _ hb1⟩
 case rest =>
  obtain ⟨tb,q,rfl,rfl,hpq,hqs,HQ,htb,hblk,hbel⟩:=hcut
  have hR2:RS wc rb s p d b:=bB hbel hrb1 HR1.out
  obtain ⟨r0,r1,r2,r3,rf⟩:=hR2.c
  have HR2:=Z hR2
  have t0:=bC hblk 0
  have t1:=bC hblk 1
  have t2:=bC hblk 2
  clear hR2 g0 g1 g2 g3 gf hblk
  have hne:¬ tb=rb:=by omega
  have HKw:=Z (HK1.out.below hbel)
  have HH:=Z (Pl.toks_hd (Pl.from_ s p))
  rw [HT.out] at HH
  rw [<- HH.out] at t0 t1 t2
  simp at t0 t1 t2
  by_cases h2:(Pl.hd ts).k=2
  ·have e0:Hid (Pl.refK (Pl.hd ts).k=110/\Pl.refN (Pl.hd ts)=(Pl.hd ts).n):=by simp [Hid,Pl.refK,Pl.refN,h2]
   rw [e0.out.1] at t0
   rw [e0.out.2] at t2
   have HV:Hid (v.single ts=some (Pl.tLit 1 (Pl.hd ts).n [],ts.tail)):=by simp [Hid,Pl.Lv.single,Pl.pSingle,h2]
   have HT2:Hid (Pl.toks (Pl.from_ s q)=ts.tail):=by
    rw [HQ.out,Pl.toks_tl _ (by rw [<- HH.out];omega) (by rw [<- HH.out];omega),HT.out];rfl
   generalize (Pl.hd ts).n=N at *
   clear e0 h2
   go_wp2_with fail
   go_ret
   have HRq:RT (wc.setCell ⟨rb,1,none⟩ (.int .i64 q)) rb s ts.tail d b:=⟨q,hqs,hs,bS HR2.out 1 _,HT2.out⟩
   cases b
   ·exact PostV.some_ (by rw [HV.out];rfl) ((HKw.out.set _ _).alloc _) (RTree.lit (lB HR2.out) 1 N [] (blk_new' _ _ _ (size_set _ _ _).symm)) (HRq.alloc _)
   ·exact PostV.none_ rfl ((HKw.out.set _ _).alloc _) (Nat.le_refl _) hd (HRq.alloc _)
  ·by_cases h3:(Pl.hd ts).k=3
   ·have e0:Hid (Pl.refK (Pl.hd ts).k=116/\Pl.refB (Pl.hd ts)=⟨(Pl.hd ts).s.toArray⟩):=by simp [Hid,Pl.refK,Pl.refB,Pl.refS,h3]
    rw [e0.out.1] at t0
    rw [e0.out.2] at t1
    have HV:Hid (v.single ts=some (Pl.tLit 2 0 (Pl.hd ts).s,ts.tail)):=by simp [Hid,Pl.Lv.single,Pl.pSingle,h3]
    have HT2:Hid (Pl.toks (Pl.from_ s q)=ts.tail):=by
     rw [HQ.out,Pl.toks_tl _ (by rw [<- HH.out];omega) (by rw [<- HH.out];omega),HT.out];rfl
    generalize (Pl.hd ts).s=N at *
    clear e0 h2 h3
    go_wp2_with fail
    go_ret
    have HRq:RT (wc.setCell ⟨rb,1,none⟩ (.int .i64 q)) rb s ts.tail d b:=⟨q,hqs,hs,bS HR2.out 1 _,HT2.out⟩
    cases b
    ·exact PostV.some_ (by rw [HV.out];rfl) ((HKw.out.set _ _).alloc _) (RTree.lit (lB HR2.out) 2 0 N (blk_new' _ _ _ (size_set _ _ _).symm)) (HRq.alloc _)
    ·exact PostV.none_ rfl ((HKw.out.set _ _).alloc _) (Nat.le_refl _) hd (HRq.alloc _)
   ·have e1:(Pl.refK (Pl.hd ts).k == 110)=false:=by
     have h:=refK_n (Pl.hd ts).k
     rw [beq_eq_false_iff_ne.2 h2] at h
     rw [beq_eq_false_iff_ne];exact bne_iff_ne.1 h
    have e2:(Pl.refK (Pl.hd ts).k == 116)=false:=by
     have:Pl.refK (Pl.hd ts).k≠116:=by
      unfold Pl.refK;repeat' split
      all_goals omega
     simpa using this
    have HRT:=Z (show RT wc rb s ts d b from ⟨p,hp,hs,HR2.out,HT.out⟩)
    clear r0 r1 r2 r3 rf
    go_wp2_with fail
    refine (nameT rb s ts d b wc HRT.out).mono ?_
    rintro e w3 ⟨rfl,hr3,hk3⟩
    have HK3:=Z (HKw.out.trans hk3)
    have HB3:=Z hr3
    clear hr3 hk3 HRT t0 t1 t2 e1 e2
    by_cases h1:b=false/\(Pl.hd ts).k=1
    ·obtain ⟨rfl,h1⟩:=h1
     have hi:isK ts 1 false=true:=by simp [isK,h1]
     have hto:toK ts 1 false=ts.tail:=by unfold toK;rw [hi];rfl
     rw [hi,hto] at HB3
     have e3:Hid (Pl.refB (Pl.hd ts)=⟨(Pl.hd ts).s.toArray⟩):=by simp [Hid,Pl.refB,Pl.refS,h1]
     rw [e3.out]
     have HV:Hid (v.single ts=if (Pl.hd ts.tail).k=10 then (if (Pl.hd ts.tail.tail).k=1 then some (Pl.tName (Pl.hd ts).s (Pl.hd ts.tail.tail).s,ts.tail.tail.tail) else none) else some (Pl.tName [] (Pl.hd ts).s,ts.tail)):=by simp [Hid,Pl.Lv.single,Pl.pSingle,h1]
     generalize (Pl.hd ts).s=N1 at *
     clear hi hto h1 h2 h3 e3
     go_wp2_with fail
     refine (fitsT 10 (by decide) (by decide) rb s ts.tail d false _ rfl w3 HB3.out).mono ?_
     rintro e w4 ⟨rfl,hr4,hk4⟩
     have HK4:=Z (HK3.out.trans hk4)
     have HB4:=Z hr4
     clear hr4 hk4 HB3
     by_cases h10:(Pl.hd ts.tail).k=10
     ·have hi:isK ts.tail 10 false=true:=by simp [isK,h10]
      have hto:toK ts.tail 10 false=ts.tail.tail:=by unfold toK;rw [hi];rfl
      rw [hto] at HB4
      rw [hi]
      clear hi hto
      go_wp2_with fail
      refine (nameT rb s ts.tail.tail d false w4 HB4.out).mono ?_
      rintro e w5 ⟨rfl,hr5,hk5⟩
      have HK5:=Z (HK4.out.trans hk5)
      have HB5:=Z hr5
      clear hr5 hk5 HB4
      go_wp2_with fail
      go_ret
      by_cases h11:(Pl.hd ts.tail.tail).k=1
      ·have hi:isK ts.tail.tail 1 false=true:=by simp [isK,h11]
       have hto:toK ts.tail.tail 1 false=ts.tail.tail.tail:=by unfold toK;rw [hi];rfl
       rw [hi,hto] at HB5
       have e3:Pl.refB (Pl.hd ts.tail.tail)=⟨(Pl.hd ts.tail.tail).s.toArray⟩:=by simp [Pl.refB,Pl.refS,h11]
       exact PostV.some_ (by rw [HV.out,if_pos h10,if_pos h11];rfl) (HK5.out.alloc _) (RTree.name HB5.out.lt N1 _ (by rw [e3];exact blk_new _ _)) (HB5.out.alloc _)
      ·have hi:isK ts.tail.tail 1 false=false:=by simp [isK,h11]
       rw [hi] at HB5
       exact PostV.none_ (by rw [HV.out,if_pos h10,if_neg h11];rfl) (HK5.out.alloc _) (Nat.le_refl _) hd (HB5.out.alloc _)
     ·have hi:isK ts.tail 10 false=false:=by simp [isK,h10]
      have hto:toK ts.tail 10 false=ts.tail:=by unfold toK;rw [hi];rfl
      rw [hto] at HB4
      rw [hi]
      go_wp2_with fail
      go_ret
      exact PostV.some_ (by rw [HV.out,if_neg h10];rfl) (HK4.out.alloc _) (RTree.name HB4.out.lt [] N1 (blk_new _ _)) (HB4.out.alloc _)
    ·have hi:isK ts 1 b=false:=by
      cases b
      ·simp at h1;simp [isK,h1]
      ·rfl
     have hto:toK ts 1 b=ts:=by unfold toK;rw [hi];rfl
     rw [hi,hto] at HB3
     have HV:Hid (bsp b (v.single ts)=none):=by
      rcases HK.out with rfl|hk
      ·rfl
      ·cases b
       ·simp at h1;simp [Hid,bsp,Pl.Lv.single,Pl.pSingle,hk,h2,h3,h1]
       ·rfl
     clear hi hto h1 h2 h3
     go_wp2_with fail
     refine (fitsT 10 (by decide) (by decide) rb s ts d true _ rfl w3 HB3.out).mono ?_
     rintro e w4 ⟨rfl,hr4,hk4⟩
     rw [isK_true]
     rw [toK_true] at hr4
     go_wp2_with fail
     go_ret
     exact PostV.none_ HV.out ((HK3.out.trans hk4).alloc _) (Nat.le_refl _) hd (hr4.alloc _)
def CR (f:FuncId)(d:Nat)(p:Pl.P):Prop:=∀ rb s ts w,RT w rb s ts d false->Calls Tryz.prog f #[.pointer (some ⟨rb,0,none⟩)] w (PostV w rb s d (p ts))
def CRbad (f:FuncId):Prop:=∀ rb s ts d w,d<=21->RT w rb s ts d true->Calls Tryz.prog f #[.pointer (some ⟨rb,0,none⟩)] w (PostV w rb s d none)
def CV (lev:Int)(d:Nat)(p:Pl.P):Prop:=∀ rb s ts w,RT w rb s ts d false->Calls Tryz.prog 185 #[.pointer (some ⟨rb,0,none⟩),.int .i64 lev] w (PostV w rb s d (p ts))
def CVbad (lev:Int):Prop:=∀ rb s ts d w,d<=21->RT w rb s ts d true->Calls Tryz.prog 185 #[.pointer (some ⟨rb,0,none⟩),.int .i64 lev] w (PostV w rb s d none)
theorem single_good (d:Nat)(hd:d<=20)(v:Pl.Lv)(H:d<20->CV 0 (d+1) v.val)(H0:d=20->∀ ts,v.val ts=none):CR 308 d v.single:=by
 intro rb s ts w hR
 by_cases h7:(Pl.hd ts).k=7
 ·exact single_open d v hd H H0 rb s ts w hR h7
 ·by_cases hw:(Pl.hd ts).k=46\/(Pl.hd ts).k=47\/(Pl.hd ts).k=45
  ·exact single_word d v rb s ts w hR hw
  ·exact single_rest d (by omega) v rb s ts false w hR (.inr ⟨h7,by omega,by omega,by omega⟩)
theorem single_bad:CRbad 308:=by
 intro rb s ts d w hd hR
 exact single_rest d hd (Pl.lv 0) rb s ts true w hR (.inl rfl)
theorem signed_good (d:Nat)(hd:d<=20)(v:Pl.Lv)(H:d<20->CR 272 (d+1) v.sgn)(H0:d=20->∀ ts,v.sgn ts=none)(H1:CR 308 d v.single):CR 272 d v.signed:=by
 intro rb s ts w hR
 have HF:=Z (fitsT 16 (by decide) (by decide) rb s ts d false { data:=#[45] } rfl w hR)
 have HH:=Z H
 have HH0:=Z H0
 have HH1:=Z H1
 clear hR H H0 H1
 by_cases h16:(Pl.hd ts).k=16
 ·have hi:isK ts 16 false=true:=by simp [isK,h16]
  have hto:toK ts 16 false=ts.tail:=by unfold toK;rw [hi];rfl
  rw [hi,hto] at HF
  clear hi hto
  have HK:=Z h16
  clear h16
  go_enter Tryz.func272,Tryz.ntmps272
  go_wp2_with fail
  refine (U HF).mono ?_
  rintro e w1 ⟨rfl,hr1,hk1⟩
  have HR1:=Z hr1
  have HK1:=Z hk1
  clear hr1 hk1 HF
  go_wp2_with fail
  refine (deeperT rb s ts.tail d (by omega) false w1 HR1.out).mono ?_
  rintro e w2 ⟨rfl,hr2,hk2⟩
  have HK2:=Z (HK1.out.trans hk2)
  by_cases h20:d<20
  ·have hdp:dpB d false=false:=by simp [dpB];omega
   rw [hdp] at hr2 ⊢
   have HR2:=Z hr2
   clear hr2 hk2 hdp HR1 HK1
   go_wp2_with fail
   refine (U HH h20 rb s ts.tail w2 HR2.out).mono ?_
   rintro e w3 ⟨hk3,a,rfl,hp⟩
   have HK3:=Z (HK2.out.trans hk3)
   clear hk3 HK2 HR2 HH HH0 HH1
   cases hv:v.sgn ts.tail with
   | none =>
    rw [hv] at hp
    obtain ⟨ts',d',hd1,hd2,hr3⟩:=hp
    obtain ⟨r2,r3,rf⟩:=hr3.c
    have HR3:=Z (hr3.deep (d' - 1) ((d':Int) - 1) (by omega))
    clear hr3
    have HV:Hid (v.signed ts=none):=by unfold Pl.Lv.signed Pl.pSigned;rw [HK.out,if_pos rfl,hv];rfl
    clear hv
    go_wp2_with fail
    go_ret
    exact PostV.none_ HV.out ((HK3.out.set _ _).alloc _) (by omega) (by omega) (HR3.out.alloc _)
   | some y =>
    obtain ⟨x,r⟩:=y
    rw [hv] at hp
    obtain ⟨hx,hr3⟩:=hp
    obtain ⟨r2,r3,rf⟩:=hr3.c
    have hlt3:=hr3.lt
    have HR3:=Z (hr3.deep d (d:Int) rfl)
    have HX:=Z hx
    clear hr3 hx
    have HV:Hid (v.signed ts=some (Pl.tOne 2 x,r)):=by unfold Pl.Lv.signed Pl.pSigned;rw [HK.out,if_pos rfl,hv];rfl
    clear hv
    go_wp2_with fail
    go_ret
    exact PostV.some_ HV.out ((HK3.out.set _ _).alloc _) (RTree.one hlt3 2 x _ (blk_new' _ _ _ (size_set _ _ _).symm) (HX.out.keeps (((Keeps.refl _ _).set _ _).alloc _))) (HR3.out.alloc _)
  ·have hdp:dpB d false=true:=by simp [dpB];omega
   rw [hdp] at hr2 ⊢
   have HV:Hid (v.signed ts=none):=by unfold Pl.Lv.signed Pl.pSigned;rw [HK.out,if_pos rfl,HH0.out (by omega)];rfl
   have HR2:=Z hr2
   clear hr2 hk2 hdp HR1 HK1 HH HH0 HH1
   go_wp2_with fail
   go_ret
   exact PostV.none_ HV.out HK2.out (by omega) (by omega) HR2.out
 ·have hi:isK ts 16 false=false:=by simp [isK,h16]
  have hto:toK ts 16 false=ts:=by unfold toK;rw [hi];rfl
  rw [hi,hto] at HF
  have HV:Hid (v.signed ts=v.single ts):=by unfold Pl.Lv.signed Pl.pSigned;rw [if_neg h16];rfl
  clear hi hto h16
  go_enter Tryz.func272,Tryz.ntmps272
  go_wp2_with fail
  refine (U HF).mono ?_
  rintro e w1 ⟨rfl,hr1,hk1⟩
  go_wp2_with fail
  refine (U HH1 rb s ts w1 hr1).mono ?_
  rintro e w2 ⟨hk2,a,rfl,hp⟩
  go_wp2_with fail
  go_ret
  exact ⟨hk1.trans hk2,a,rfl,by rw [HV.out];exact hp⟩
theorem signed_bad:CRbad 272:=by
 intro rb s ts d w hd hR
 have HF:=Z (fitsT 16 (by decide) (by decide) rb s ts d true { data:=#[45] } rfl w hR)
 rw [isK_true,toK_true] at HF
 clear hR
 go_enter Tryz.func272,Tryz.ntmps272
 go_wp2_with fail
 refine (U HF).mono ?_
 rintro e w1 ⟨rfl,hr1,hk1⟩
 go_wp2_with fail
 refine (single_bad rb s ts d w1 hd hr1).mono ?_
 rintro e w2 ⟨hk2,a,rfl,hp⟩
 go_wp2_with fail
 go_ret
 exact ⟨hk1.trans hk2,a,rfl,hp⟩
def CP (lev:Int)(d:Nat)(p:Pl.P):Prop:=∀ rb s ts w,RT w rb s ts d false->Calls Tryz.prog 238 #[.pointer (some ⟨rb,0,none⟩),.int .i64 lev] w (PostV w rb s d (p ts))
def CPbad (lev:Int):Prop:=∀ rb s ts d w,d<=21->RT w rb s ts d true->Calls Tryz.prog 238 #[.pointer (some ⟨rb,0,none⟩),.int .i64 lev] w (PostV w rb s d none)
theorem part_val (lev lev':Int)(hl:(lev=0/\lev'=1)\/(lev=3/\lev'=4))(rb:Nat)(s:ByteArray)(d:Nat)(w:World)(sp:Option (Pl.T × List Pl.Tok))(H:Hid (Calls Tryz.prog 185 #[.pointer (some ⟨rb,0,none⟩),.int .i64 lev'] w (PostV w rb s d sp))) :
 Calls Tryz.prog 238 #[.pointer (some ⟨rb,0,none⟩),.int .i64 lev] w (PostV w rb s d sp):=by
 rcases hl with ⟨rfl,rfl⟩|⟨rfl,rfl⟩
 all_goals
  go_enter Tryz.func238,Tryz.ntmps238
  go_wp2_with fail
  refine (U H).mono ?_
  rintro e w2 ⟨hk2,a,rfl,hp⟩
  go_wp2_with fail
  go_ret
  exact ⟨hk2,a,rfl,hp⟩
theorem part_no (rb:Nat)(s:ByteArray)(d:Nat)(w:World)(sp:Option (Pl.T × List Pl.Tok))(H:Hid (Calls Tryz.prog 271 #[.pointer (some ⟨rb,0,none⟩)] w (PostV w rb s d sp))) :
 Calls Tryz.prog 238 #[.pointer (some ⟨rb,0,none⟩),.int .i64 1] w (PostV w rb s d sp):=by
 go_enter Tryz.func238,Tryz.ntmps238
 go_wp2_with fail
 refine (U H).mono ?_
 rintro e w2 ⟨hk2,a,rfl,hp⟩
 go_wp2_with fail
 go_ret
 exact ⟨hk2,a,rfl,hp⟩
theorem part_signed (rb:Nat)(s:ByteArray)(d:Nat)(w:World)(sp:Option (Pl.T × List Pl.Tok))(H:Hid (Calls Tryz.prog 272 #[.pointer (some ⟨rb,0,none⟩)] w (PostV w rb s d sp))) :
 Calls Tryz.prog 238 #[.pointer (some ⟨rb,0,none⟩),.int .i64 4] w (PostV w rb s d sp):=by
 go_enter Tryz.func238,Tryz.ntmps238
 go_wp2_with fail
 refine (U H).mono ?_
 rintro e w2 ⟨hk2,a,rfl,hp⟩
 go_wp2_with fail
 go_ret
 exact ⟨hk2,a,rfl,hp⟩
theorem strsAt.alloc {w:World}{lb:Nat}{ks:List Nat}(h:strsAt w lb ks)(o:Obj):strsAt (w.alloc o) lb ks :=
 ⟨by simp;have:=h.1;omega,fun i hi=>by rw [World.cell?_alloc_past (hn:=h.1)];exact h.2.1 i hi,h.2.2⟩
theorem strsAt.keeps {w w':World}{rb lb:Nat}{ks:List Nat}(h:strsAt w lb ks)(hk:Keeps rb w w')(hne:lb≠rb):strsAt w' lb ks :=
 ⟨Nat.lt_of_lt_of_le h.1 hk.size,fun i hi=>by rw [hk.cell h.1 hne];exact h.2.1 i hi,h.2.2⟩
def LoopV (w wr:World)(rb:Nat)(s:ByteArray)(d:Nat)(part:Pl.P)(op:Nat->Option Nat)(sp:Option (Pl.T × List Pl.Tok))(g:Nat)(a:Option Addr):Prop :=
 Keeps rb w wr/\((∃ x ts,ts.length<g/\RTree wr rb x (.pointer a)/\RT wr rb s ts d false/\Pl.chain part op (ts.length+1) x ts=sp)\/(∃ ts' d',d<=d'/\d'<=21/\RT wr rb s ts' d' true/\sp=none))
theorem value0_good (d:Nat)(hd:d<=20)(part:Pl.P)(hshr:Pl.Shr part)(H:CP 0 d part):CV 0 d (Pl.chained part Pl.orOp):=by
 intro rb s ts w hR
 have hrb:=hR.lt
 have HH:=Z H
 have HS:=Z hshr
 have HR:=Z hR
 clear H hshr hR
 go_enter Tryz.func185,Tryz.ntmps185
 go_wp2_with fail
 refine (U HH rb s ts _ (by exact (((((HR.out.alloc _).alloc _).alloc _).alloc _).alloc _))).mono ?_
 rintro e w1 ⟨hk1,a,rfl,hp⟩
 have hL0:=strs_new w [42] #[.string { data:=#[79,82] }] 9 rfl (by decide)
 have hL:=((((hL0.alloc _).alloc _).alloc _).alloc _).keeps hk1 (by simp;omega)
 try simp only [World.size_alloc] at hL
 have HL:=Z hL
 have HK1:=Z ((((((Keeps.refl rb w).alloc _).alloc _).alloc _).alloc _).alloc _ |>.trans hk1)
 have HP:=Z hp
 clear hL0 hL hk1 hp
 have hlv:∃ sp,sp=Pl.chained part Pl.orOp ts/\Hid (LoopV w1 w1 rb s d part Pl.orOp sp ((part ts).elim 0 (fun z=>z.2.length)+1) a):=by
  refine ⟨_,rfl,Keeps.refl _ _,?_⟩
  have hq:=HP.out
  cases hv:part ts with
  | none =>
   rw [hv] at hq
   obtain ⟨ts',d',h1,h2,h3⟩:=hq
   exact .inr ⟨ts',d',h1,h2,h3,by unfold Pl.chained;rw [hv]⟩
  | some y =>
   obtain ⟨x,r⟩:=y
   rw [hv] at hq
   exact .inl ⟨x,r,by simp,hq.1,hq.2,by unfold Pl.chained;rw [hv]⟩
 obtain ⟨sp,hsp,HLV⟩:=hlv
 have HSP:=Z hsp
 clear hsp
 generalize ((part ts).elim 0 (fun z=>z.2.length)+1)=g0 at *
 go_wp2_with fail
 go_loopg [6] g0 (fun g x wr=>∃ a,x=.pointer a/\Hid (LoopV w1 wr rb s d part Pl.orOp sp g a))
 case atStart=>exact ⟨a,rfl,HLV⟩
 case round =>
  obtain ⟨a,rfl,HV⟩:=hrel
  obtain ⟨hkr,hor⟩:=HV.out
  have HKR:=Z hkr
  clear hkr HV HLV HP
  rcases hor with ⟨x,tr,hg,hx,hr,hch⟩|⟨tr,d',hd1,hd2,hr,hspn⟩
  ·have HX:=Z hx
   have HRr:=Z hr
   have HCH:=Z hch
   obtain ⟨r2,r3,rf⟩:=hr.c
   have hLr:=HL.out.keeps HKR.out (by omega)
   have HF:=Z (firstN [42] 1 rfl (w.heap.size) 1 rb s tr d false wr hr hLr (by omega) (by omega))
   have hcs:=hLr.2.1
   clear hx hr hch hLr
   by_cases hno:(Pl.hd tr).k≠42
   ·have hf:Hid (fstI tr false [42] 0=-1/\fstTo tr false [42]=tr):=by simp [Hid,fstI,fstTo,isK,hno]
    have hop:Hid (sp=some (x,tr)):=by rw [<- HCH.out];exact chain_end (by simp [Pl.orOp,hno])
    clear hcs hno
    go_wp2_with fail
    refine (U HF).mono ?_
    rintro e w2 ⟨rfl,hr2,hk2⟩
    rw [hf.out.1]
    rw [hf.out.2] at hr2
    go_wp2_with fail
    go_ret
    exact PostV.some_ (by rw [<- HSP.out,hop.out]) (HK1.out.trans (HKR.out.trans hk2)) (HX.out.keeps hk2) hr2
   ·have hk:(Pl.hd tr).k=42:=by omega
    have hto:Hid (fstI tr false [42] 0=0/\fstTo tr false [42]=tr.tail):=by simp [Hid,fstI,fstTo,isK,hk]
    have hop:Pl.orOp (Pl.hd tr).k=some 18:=by simp [Pl.orOp,hk]
    have hc:wr.cell? ⟨w.heap.size,0,none⟩=some (.string { data:=#[79,82] }):=hcs 0 (by decide)
    have HOP:=Z hop
    have hlb:=HL.out.1
    have hlb2:w.heap.size<wr.heap.size:=Nat.lt_of_lt_of_le hlb HKR.out.size
    clear hcs hno hk hop hlb
    go_wp2_with fail
    refine (U HF).mono ?_
    rintro e w2 ⟨rfl,hr2,hk2⟩
    rw [hto.out.1]
    rw [hto.out.2] at hr2
    have hc2:w2.cell? ⟨w.heap.size,0,none⟩=some (.string { data:=#[79,82] }):=by rw [hk2.cell hlb2 (by omega)];exact hc
    have HR2:=Z hr2
    have HK2:=Z (HKR.out.trans hk2)
    have HX2:=Z (HX.out.keeps hk2)
    clear hr2 hk2 HX HF hto hc r2 r3 rf HRr
    go_wp2_with fail
    refine (U HH rb s tr.tail w2 HR2.out).mono ?_
    rintro e w3 ⟨hk3,a',rfl,hp3⟩
    have HK3:=Z (HK2.out.trans hk3)
    have HX3:=Z (HX2.out.keeps hk3)
    have HP3:=Z hp3
    clear hk3 hp3 HX2
    go_wp2_with fail
    have hq:=HP3.out
    cases hv:part tr.tail with
    | none =>
     rw [hv] at hq
     obtain ⟨t3,d3,h1,h2,h3⟩:=hq
     go_roundg 0
     case measure=>omega
     case rel=>exact ⟨_,rfl,HK3.out.alloc _,.inr ⟨t3,d3,h1,h2,h3.alloc _,by rw [<- HCH.out];exact chain_bad HOP.out hv⟩⟩
    | some y =>
     obtain ⟨y,r⟩:=y
     rw [hv] at hq
     have hst:=chain_step HS.out rfl HOP.out hv (x:=x)
     go_roundg (r.length+1)
     case measure=>omega
     case rel=>exact ⟨_,rfl,HK3.out.alloc _,.inl ⟨Pl.tTwo 18 x y,r,by omega,RTree.two hq.2.lt 18 x y _ _ (blk_new _ _) (HX3.out.keeps ((Keeps.refl _ _).alloc _)) (hq.1.keeps ((Keeps.refl _ _).alloc _)),hq.2.alloc _,by rw [<- HCH.out,hst.1]⟩⟩
  ·have HRr:=Z hr
   obtain ⟨r2,r3,rf⟩:=hr.c
   have HSN:=Z hspn
   clear hr hspn
   go_wp2_with fail
   go_ret
   exact PostV.none_ (by rw [<- HSP.out,HSN.out]) (HK1.out.trans HKR.out) hd1 hd2 HRr.out
theorem value0_bad (H:CPbad 0):CVbad 0:=by
 intro rb s ts d w hd hR
 have hrb:=hR.lt
 have HH:=Z H
 have HR:=Z hR
 clear H hR
 go_enter Tryz.func185,Tryz.ntmps185
 go_wp2_with fail
 refine (U HH rb s ts d _ hd (by exact (((((HR.out.alloc _).alloc _).alloc _).alloc _).alloc _))).mono ?_
 rintro e w1 ⟨hk1,a,rfl,t1,d1,hd1,hd2,hr1⟩
 have HK1:=Z ((((((Keeps.refl rb w).alloc _).alloc _).alloc _).alloc _).alloc _ |>.trans hk1)
 have HR1:=Z hr1
 obtain ⟨r2,r3,rf⟩:=hr1.c
 clear hk1 hr1 HR
 go_wp2_with fail
 go_loopg [6] 0 (fun g x wr=>x=.pointer a/\wr=w1)
 case atStart=>exact ⟨rfl,rfl⟩
 case round =>
  obtain ⟨rfl,rfl⟩:=hrel
  go_wp2_with fail
  go_ret
  exact PostV.none_ rfl HK1.out hd1 hd2 HR1.out
theorem value1_good (d:Nat)(hd:d<=20)(part:Pl.P)(hshr:Pl.Shr part)(H:CP 1 d part):CV 1 d (Pl.chained part Pl.andOp):=by
 intro rb s ts w hR
 have hrb:=hR.lt
 have HH:=Z H
 have HS:=Z hshr
 have HR:=Z hR
 clear H hshr hR
 go_enter Tryz.func185,Tryz.ntmps185
 go_wp2_with fail
 refine (U HH rb s ts _ (by exact (((((HR.out.alloc _).alloc _).alloc _).alloc _).alloc _))).mono ?_
 rintro e w1 ⟨hk1,a,rfl,hp⟩
 have hL0:=strs_new (w.alloc (.cells #[.string { data:=#[79,82] }] 9)) [41] #[.string { data:=#[65,78,68] }] 9 rfl (by decide)
 have hL:=(((hL0.alloc _).alloc _).alloc _).keeps hk1 (by simp;omega)
 try simp only [World.size_alloc] at hL
 have HL:=Z hL
 have HK1:=Z ((((((Keeps.refl rb w).alloc _).alloc _).alloc _).alloc _).alloc _ |>.trans hk1)
 have HP:=Z hp
 clear hL0 hL hk1 hp
 have hlv:∃ sp,sp=Pl.chained part Pl.andOp ts/\Hid (LoopV w1 w1 rb s d part Pl.andOp sp ((part ts).elim 0 (fun z=>z.2.length)+1) a):=by
  refine ⟨_,rfl,Keeps.refl _ _,?_⟩
  have hq:=HP.out
  cases hv:part ts with
  | none =>
   rw [hv] at hq
   obtain ⟨ts',d',h1,h2,h3⟩:=hq
   exact .inr ⟨ts',d',h1,h2,h3,by unfold Pl.chained;rw [hv]⟩
  | some y =>
   obtain ⟨x,r⟩:=y
   rw [hv] at hq
   exact .inl ⟨x,r,by simp,hq.1,hq.2,by unfold Pl.chained;rw [hv]⟩
 obtain ⟨sp,hsp,HLV⟩:=hlv
 have HSP:=Z hsp
 clear hsp
 generalize ((part ts).elim 0 (fun z=>z.2.length)+1)=g0 at *
 go_wp2_with fail
 go_loopg [6] g0 (fun g x wr=>∃ a,x=.pointer a/\Hid (LoopV w1 wr rb s d part Pl.andOp sp g a))
 case atStart=>exact ⟨a,rfl,HLV⟩
 case round =>
  obtain ⟨a,rfl,HV⟩:=hrel
  obtain ⟨hkr,hor⟩:=HV.out
  have HKR:=Z hkr
  clear hkr HV HLV HP
  rcases hor with ⟨x,tr,hg,hx,hr,hch⟩|⟨tr,d',hd1,hd2,hr,hspn⟩
  ·have HX:=Z hx
   have HRr:=Z hr
   have HCH:=Z hch
   obtain ⟨r2,r3,rf⟩:=hr.c
   have hLr:=HL.out.keeps HKR.out (by omega)
   have HF:=Z (firstN [41] 1 rfl (w.heap.size+1) 1 rb s tr d false wr hr hLr (by omega) (by omega))
   have hcs:=hLr.2.1
   clear hx hr hch hLr
   by_cases hno:(Pl.hd tr).k≠41
   ·have hf:Hid (fstI tr false [41] 0=-1/\fstTo tr false [41]=tr):=by simp [Hid,fstI,fstTo,isK,hno]
    have hop:Hid (sp=some (x,tr)):=by rw [<- HCH.out];exact chain_end (by simp [Pl.andOp,hno])
    clear hcs hno
    go_wp2_with fail
    refine (U HF).mono ?_
    rintro e w2 ⟨rfl,hr2,hk2⟩
    rw [hf.out.1]
    rw [hf.out.2] at hr2
    go_wp2_with fail
    go_ret
    exact PostV.some_ (by rw [<- HSP.out,hop.out]) (HK1.out.trans (HKR.out.trans hk2)) (HX.out.keeps hk2) hr2
   ·have hk:(Pl.hd tr).k=41:=by omega
    have hto:Hid (fstI tr false [41] 0=0/\fstTo tr false [41]=tr.tail):=by simp [Hid,fstI,fstTo,isK,hk]
    have hop:Pl.andOp (Pl.hd tr).k=some 17:=by simp [Pl.andOp,hk]
    have hc:wr.cell? ⟨w.heap.size+1,0,none⟩=some (.string { data:=#[65,78,68] }):=hcs 0 (by decide)
    have HOP:=Z hop
    have hlb:=HL.out.1
    have hlb2:w.heap.size+1<wr.heap.size:=Nat.lt_of_lt_of_le hlb HKR.out.size
    clear hcs hno hk hop hlb
    go_wp2_with fail
    refine (U HF).mono ?_
    rintro e w2 ⟨rfl,hr2,hk2⟩
    rw [hto.out.1]
    rw [hto.out.2] at hr2
    have hc2:w2.cell? ⟨w.heap.size+1,0,none⟩=some (.string { data:=#[65,78,68] }):=by rw [hk2.cell hlb2 (by omega)];exact hc
    have HR2:=Z hr2
    have HK2:=Z (HKR.out.trans hk2)
    have HX2:=Z (HX.out.keeps hk2)
    clear hr2 hk2 HX HF hto hc r2 r3 rf HRr
    go_wp2_with fail
    refine (U HH rb s tr.tail w2 HR2.out).mono ?_
    rintro e w3 ⟨hk3,a',rfl,hp3⟩
    have HK3:=Z (HK2.out.trans hk3)
    have HX3:=Z (HX2.out.keeps hk3)
    have HP3:=Z hp3
    clear hk3 hp3 HX2
    go_wp2_with fail
    have hq:=HP3.out
    cases hv:part tr.tail with
    | none =>
     rw [hv] at hq
     obtain ⟨t3,d3,h1,h2,h3⟩:=hq
     go_roundg 0
     case measure=>omega
     case rel=>exact ⟨_,rfl,HK3.out.alloc _,.inr ⟨t3,d3,h1,h2,h3.alloc _,by rw [<- HCH.out];exact chain_bad HOP.out hv⟩⟩
    | some y =>
     obtain ⟨y,r⟩:=y
     rw [hv] at hq
     have hst:=chain_step HS.out rfl HOP.out hv (x:=x)
     go_roundg (r.length+1)
     case measure=>omega
     case rel=>exact ⟨_,rfl,HK3.out.alloc _,.inl ⟨Pl.tTwo 17 x y,r,by omega,RTree.two hq.2.lt 17 x y _ _ (blk_new _ _) (HX3.out.keeps ((Keeps.refl _ _).alloc _)) (hq.1.keeps ((Keeps.refl _ _).alloc _)),hq.2.alloc _,by rw [<- HCH.out,hst.1]⟩⟩
  ·have HRr:=Z hr
   obtain ⟨r2,r3,rf⟩:=hr.c
   have HSN:=Z hspn
   clear hr hspn
   go_wp2_with fail
   go_ret
   exact PostV.none_ (by rw [<- HSP.out,HSN.out]) (HK1.out.trans HKR.out) hd1 hd2 HRr.out
theorem value1_bad (H:CPbad 1):CVbad 1:=by
 intro rb s ts d w hd hR
 have hrb:=hR.lt
 have HH:=Z H
 have HR:=Z hR
 clear H hR
 go_enter Tryz.func185,Tryz.ntmps185
 go_wp2_with fail
 refine (U HH rb s ts d _ hd (by exact (((((HR.out.alloc _).alloc _).alloc _).alloc _).alloc _))).mono ?_
 rintro e w1 ⟨hk1,a,rfl,t1,d1,hd1,hd2,hr1⟩
 have HK1:=Z ((((((Keeps.refl rb w).alloc _).alloc _).alloc _).alloc _).alloc _ |>.trans hk1)
 have HR1:=Z hr1
 obtain ⟨r2,r3,rf⟩:=hr1.c
 clear hk1 hr1 HR
 go_wp2_with fail
 go_loopg [6] 0 (fun g x wr=>x=.pointer a/\wr=w1)
 case atStart=>exact ⟨rfl,rfl⟩
 case round =>
  obtain ⟨rfl,rfl⟩:=hrel
  go_wp2_with fail
  go_ret
  exact PostV.none_ rfl HK1.out hd1 hd2 HR1.out
theorem value3_good (d:Nat)(hd:d<=20)(part:Pl.P)(hshr:Pl.Shr part)(H:CP 3 d part):CV 3 d (Pl.chained part Pl.sumOp):=by
 intro rb s ts w hR
 have hrb:=hR.lt
 have HH:=Z H
 have HS:=Z hshr
 have HR:=Z hR
 clear H hshr hR
 go_enter Tryz.func185,Tryz.ntmps185
 go_wp2_with fail
 refine (U HH rb s ts _ (by exact (((((HR.out.alloc _).alloc _).alloc _).alloc _).alloc _))).mono ?_
 rintro e w1 ⟨hk1,a,rfl,hp⟩
 have hL0:=strs_new ((w.alloc (.cells #[.string { data:=#[79,82] }] 9)).alloc (.cells #[.string { data:=#[65,78,68] }] 9)) [15,16] #[.string { data:=#[43] },.string { data:=#[45] }] 9 rfl (by decide)
 have hL:=((hL0.alloc _).alloc _).keeps hk1 (by simp;omega)
 try simp only [World.size_alloc] at hL
 have HL:=Z hL
 have HK1:=Z ((((((Keeps.refl rb w).alloc _).alloc _).alloc _).alloc _).alloc _ |>.trans hk1)
 have HP:=Z hp
 clear hL0 hL hk1 hp
 have hlv:∃ sp,sp=Pl.chained part Pl.sumOp ts/\Hid (LoopV w1 w1 rb s d part Pl.sumOp sp ((part ts).elim 0 (fun z=>z.2.length)+1) a):=by
  refine ⟨_,rfl,Keeps.refl _ _,?_⟩
  have hq:=HP.out
  cases hv:part ts with
  | none =>
   rw [hv] at hq
   obtain ⟨ts',d',h1,h2,h3⟩:=hq
   exact .inr ⟨ts',d',h1,h2,h3,by unfold Pl.chained;rw [hv]⟩
  | some y =>
   obtain ⟨x,r⟩:=y
   rw [hv] at hq
   exact .inl ⟨x,r,by simp,hq.1,hq.2,by unfold Pl.chained;rw [hv]⟩
 obtain ⟨sp,hsp,HLV⟩:=hlv
 have HSP:=Z hsp
 clear hsp
 generalize ((part ts).elim 0 (fun z=>z.2.length)+1)=g0 at *
 go_wp2_with fail
 go_loopg [6] g0 (fun g x wr=>∃ a,x=.pointer a/\Hid (LoopV w1 wr rb s d part Pl.sumOp sp g a))
 case atStart=>exact ⟨a,rfl,HLV⟩
 case round =>
  obtain ⟨a,rfl,HV⟩:=hrel
  obtain ⟨hkr,hor⟩:=HV.out
  have HKR:=Z hkr
  clear hkr HV HLV HP
  rcases hor with ⟨x,tr,hg,hx,hr,hch⟩|⟨tr,d',hd1,hd2,hr,hspn⟩
  ·have HX:=Z hx
   have HRr:=Z hr
   have HCH:=Z hch
   obtain ⟨r2,r3,rf⟩:=hr.c
   have hLr:=HL.out.keeps HKR.out (by omega)
   have HF:=Z (firstN [15,16] 2 rfl (w.heap.size+1+1) 2 rb s tr d false wr hr hLr (by omega) (by omega))
   have hcs:=hLr.2.1
   clear hx hr hch hLr
   by_cases hno:(Pl.hd tr).k≠15/\(Pl.hd tr).k≠16
   ·have hf:Hid (fstI tr false [15,16] 0=-1/\fstTo tr false [15,16]=tr):=by simp [Hid,fstI,fstTo,isK,hno]
    have hop:Hid (sp=some (x,tr)):=by rw [<- HCH.out];exact chain_end (by simp [Pl.sumOp,hno])
    clear hcs hno
    go_wp2_with fail
    refine (U HF).mono ?_
    rintro e w2 ⟨rfl,hr2,hk2⟩
    rw [hf.out.1]
    rw [hf.out.2] at hr2
    go_wp2_with fail
    go_ret
    exact PostV.some_ (by rw [<- HSP.out,hop.out]) (HK1.out.trans (HKR.out.trans hk2)) (HX.out.keeps hk2) hr2
   ·by_cases hk:(Pl.hd tr).k=15
    ·have hto:Hid (fstI tr false [15,16] 0=0/\fstTo tr false [15,16]=tr.tail):=by simp [Hid,fstI,fstTo,isK,hk]
     have hop:Pl.sumOp (Pl.hd tr).k=some 6:=by simp [Pl.sumOp,hk]
     have hc:wr.cell? ⟨w.heap.size+1+1,0,none⟩=some (.string { data:=#[43] }):=hcs 0 (by decide)
     have HOP:=Z hop
     have hlb:=HL.out.1
     have hlb2:w.heap.size+1+1<wr.heap.size:=Nat.lt_of_lt_of_le hlb HKR.out.size
     clear hcs hno hk hop hlb
     go_wp2_with fail
     refine (U HF).mono ?_
     rintro e w2 ⟨rfl,hr2,hk2⟩
     rw [hto.out.1]
     rw [hto.out.2] at hr2
     have hc2:w2.cell? ⟨w.heap.size+1+1,0,none⟩=some (.string { data:=#[43] }):=by rw [hk2.cell hlb2 (by omega)];exact hc
     have HR2:=Z hr2
     have HK2:=Z (HKR.out.trans hk2)
     have HX2:=Z (HX.out.keeps hk2)
     clear hr2 hk2 HX HF hto hc r2 r3 rf HRr
     go_wp2_with fail
     refine (U HH rb s tr.tail w2 HR2.out).mono ?_
     rintro e w3 ⟨hk3,a',rfl,hp3⟩
     have HK3:=Z (HK2.out.trans hk3)
     have HX3:=Z (HX2.out.keeps hk3)
     have HP3:=Z hp3
     clear hk3 hp3 HX2
     go_wp2_with fail
     have hq:=HP3.out
     cases hv:part tr.tail with
     | none =>
      rw [hv] at hq
      obtain ⟨t3,d3,h1,h2,h3⟩:=hq
      go_roundg 0
      case measure=>omega
      case rel=>exact ⟨_,rfl,HK3.out.alloc _,.inr ⟨t3,d3,h1,h2,h3.alloc _,by rw [<- HCH.out];exact chain_bad HOP.out hv⟩⟩
     | some y =>
      obtain ⟨y,r⟩:=y
      rw [hv] at hq
      have hst:=chain_step HS.out rfl HOP.out hv (x:=x)
      go_roundg (r.length+1)
      case measure=>omega
      case rel=>exact ⟨_,rfl,HK3.out.alloc _,.inl ⟨Pl.tTwo 6 x y,r,by omega,RTree.two hq.2.lt 6 x y _ _ (blk_new _ _) (HX3.out.keeps ((Keeps.refl _ _).alloc _)) (hq.1.keeps ((Keeps.refl _ _).alloc _)),hq.2.alloc _,by rw [<- HCH.out,hst.1]⟩⟩
    ·have hk:(Pl.hd tr).k=16:=by omega
     have hto:Hid (fstI tr false [15,16] 0=1/\fstTo tr false [15,16]=tr.tail):=by simp [Hid,fstI,fstTo,isK,hk]
     have hop:Pl.sumOp (Pl.hd tr).k=some 7:=by simp [Pl.sumOp,hk]
     have hc:wr.cell? ⟨w.heap.size+1+1,1,none⟩=some (.string { data:=#[45] }):=hcs 1 (by decide)
     have HOP:=Z hop
     have hlb:=HL.out.1
     have hlb2:w.heap.size+1+1<wr.heap.size:=Nat.lt_of_lt_of_le hlb HKR.out.size
     clear hcs hno hk hop hlb
     go_wp2_with fail
     refine (U HF).mono ?_
     rintro e w2 ⟨rfl,hr2,hk2⟩
     rw [hto.out.1]
     rw [hto.out.2] at hr2
     have hc2:w2.cell? ⟨w.heap.size+1+1,1,none⟩=some (.string { data:=#[45] }):=by rw [hk2.cell hlb2 (by omega)];exact hc
     have HR2:=Z hr2
     have HK2:=Z (HKR.out.trans hk2)
     have HX2:=Z (HX.out.keeps hk2)
     clear hr2 hk2 HX HF hto hc r2 r3 rf HRr
     go_wp2_with fail
     refine (U HH rb s tr.tail w2 HR2.out).mono ?_
     rintro e w3 ⟨hk3,a',rfl,hp3⟩
     have HK3:=Z (HK2.out.trans hk3)
     have HX3:=Z (HX2.out.keeps hk3)
     have HP3:=Z hp3
     clear hk3 hp3 HX2
     go_wp2_with fail
     have hq:=HP3.out
     cases hv:part tr.tail with
     | none =>
      rw [hv] at hq
      obtain ⟨t3,d3,h1,h2,h3⟩:=hq
      go_roundg 0
      case measure=>omega
      case rel=>exact ⟨_,rfl,HK3.out.alloc _,.inr ⟨t3,d3,h1,h2,h3.alloc _,by rw [<- HCH.out];exact chain_bad HOP.out hv⟩⟩
     | some y =>
      obtain ⟨y,r⟩:=y
      rw [hv] at hq
      have hst:=chain_step HS.out rfl HOP.out hv (x:=x)
      go_roundg (r.length+1)
      case measure=>omega
      case rel=>exact ⟨_,rfl,HK3.out.alloc _,.inl ⟨Pl.tTwo 7 x y,r,by omega,RTree.two hq.2.lt 7 x y _ _ (blk_new _ _) (HX3.out.keeps ((Keeps.refl _ _).alloc _)) (hq.1.keeps ((Keeps.refl _ _).alloc _)),hq.2.alloc _,by rw [<- HCH.out,hst.1]⟩⟩
  ·have HRr:=Z hr
   obtain ⟨r2,r3,rf⟩:=hr.c
   have HSN:=Z hspn
   clear hr hspn
   go_wp2_with fail
   go_ret
   exact PostV.none_ (by rw [<- HSP.out,HSN.out]) (HK1.out.trans HKR.out) hd1 hd2 HRr.out
theorem value3_bad (H:CPbad 3):CVbad 3:=by
 intro rb s ts d w hd hR
 have hrb:=hR.lt
 have HH:=Z H
 have HR:=Z hR
 clear H hR
 go_enter Tryz.func185,Tryz.ntmps185
 go_wp2_with fail
 refine (U HH rb s ts d _ hd (by exact (((((HR.out.alloc _).alloc _).alloc _).alloc _).alloc _))).mono ?_
 rintro e w1 ⟨hk1,a,rfl,t1,d1,hd1,hd2,hr1⟩
 have HK1:=Z ((((((Keeps.refl rb w).alloc _).alloc _).alloc _).alloc _).alloc _ |>.trans hk1)
 have HR1:=Z hr1
 obtain ⟨r2,r3,rf⟩:=hr1.c
 clear hk1 hr1 HR
 go_wp2_with fail
 go_loopg [6] 0 (fun g x wr=>x=.pointer a/\wr=w1)
 case atStart=>exact ⟨rfl,rfl⟩
 case round =>
  obtain ⟨rfl,rfl⟩:=hrel
  go_wp2_with fail
  go_ret
  exact PostV.none_ rfl HK1.out hd1 hd2 HR1.out
theorem value4_good (d:Nat)(hd:d<=20)(part:Pl.P)(hshr:Pl.Shr part)(H:CP 4 d part):CV 4 d (Pl.chained part Pl.prodOp):=by
 intro rb s ts w hR
 have hrb:=hR.lt
 have HH:=Z H
 have HS:=Z hshr
 have HR:=Z hR
 clear H hshr hR
 go_enter Tryz.func185,Tryz.ntmps185
 go_wp2_with fail
 refine (U HH rb s ts _ (by exact (((((HR.out.alloc _).alloc _).alloc _).alloc _).alloc _))).mono ?_
 rintro e w1 ⟨hk1,a,rfl,hp⟩
 have hL0:=strs_new (((w.alloc (.cells #[.string { data:=#[79,82] }] 9)).alloc (.cells #[.string { data:=#[65,78,68] }] 9)).alloc (.cells #[.string { data:=#[43] },.string { data:=#[45] }] 9)) [17,18,19] #[.string { data:=#[42] },.string { data:=#[47] },.string { data:=#[37] }] 9 rfl (by decide)
 have hL:=(hL0.alloc _).keeps hk1 (by simp;omega)
 try simp only [World.size_alloc] at hL
 have HL:=Z hL
 have HK1:=Z ((((((Keeps.refl rb w).alloc _).alloc _).alloc _).alloc _).alloc _ |>.trans hk1)
 have HP:=Z hp
 clear hL0 hL hk1 hp
 have hlv:∃ sp,sp=Pl.chained part Pl.prodOp ts/\Hid (LoopV w1 w1 rb s d part Pl.prodOp sp ((part ts).elim 0 (fun z=>z.2.length)+1) a):=by
  refine ⟨_,rfl,Keeps.refl _ _,?_⟩
  have hq:=HP.out
  cases hv:part ts with
  | none =>
   rw [hv] at hq
   obtain ⟨ts',d',h1,h2,h3⟩:=hq
   exact .inr ⟨ts',d',h1,h2,h3,by unfold Pl.chained;rw [hv]⟩
  | some y =>
   obtain ⟨x,r⟩:=y
   rw [hv] at hq
   exact .inl ⟨x,r,by simp,hq.1,hq.2,by unfold Pl.chained;rw [hv]⟩
 obtain ⟨sp,hsp,HLV⟩:=hlv
 have HSP:=Z hsp
 clear hsp
 generalize ((part ts).elim 0 (fun z=>z.2.length)+1)=g0 at *
 go_wp2_with fail
 go_loopg [6] g0 (fun g x wr=>∃ a,x=.pointer a/\Hid (LoopV w1 wr rb s d part Pl.prodOp sp g a))
 case atStart=>exact ⟨a,rfl,HLV⟩
 case round =>
  obtain ⟨a,rfl,HV⟩:=hrel
  obtain ⟨hkr,hor⟩:=HV.out
  have HKR:=Z hkr
  clear hkr HV HLV HP
  rcases hor with ⟨x,tr,hg,hx,hr,hch⟩|⟨tr,d',hd1,hd2,hr,hspn⟩
  ·have HX:=Z hx
   have HRr:=Z hr
   have HCH:=Z hch
   obtain ⟨r2,r3,rf⟩:=hr.c
   have hLr:=HL.out.keeps HKR.out (by omega)
   have HF:=Z (firstN [17,18,19] 3 rfl (w.heap.size+1+1+1) 3 rb s tr d false wr hr hLr (by omega) (by omega))
   have hcs:=hLr.2.1
   clear hx hr hch hLr
   by_cases hno:(Pl.hd tr).k≠17/\(Pl.hd tr).k≠18/\(Pl.hd tr).k≠19
   ·have hf:Hid (fstI tr false [17,18,19] 0=-1/\fstTo tr false [17,18,19]=tr):=by simp [Hid,fstI,fstTo,isK,hno]
    have hop:Hid (sp=some (x,tr)):=by rw [<- HCH.out];exact chain_end (by simp [Pl.prodOp,hno])
    clear hcs hno
    go_wp2_with fail
    refine (U HF).mono ?_
    rintro e w2 ⟨rfl,hr2,hk2⟩
    rw [hf.out.1]
    rw [hf.out.2] at hr2
    go_wp2_with fail
    go_ret
    exact PostV.some_ (by rw [<- HSP.out,hop.out]) (HK1.out.trans (HKR.out.trans hk2)) (HX.out.keeps hk2) hr2
   ·by_cases hk:(Pl.hd tr).k=17
    ·have hto:Hid (fstI tr false [17,18,19] 0=0/\fstTo tr false [17,18,19]=tr.tail):=by simp [Hid,fstI,fstTo,isK,hk]
     have hop:Pl.prodOp (Pl.hd tr).k=some 8:=by simp [Pl.prodOp,hk]
     have hc:wr.cell? ⟨w.heap.size+1+1+1,0,none⟩=some (.string { data:=#[42] }):=hcs 0 (by decide)
     have HOP:=Z hop
     have hlb:=HL.out.1
     have hlb2:w.heap.size+1+1+1<wr.heap.size:=Nat.lt_of_lt_of_le hlb HKR.out.size
     clear hcs hno hk hop hlb
     go_wp2_with fail
     refine (U HF).mono ?_
     rintro e w2 ⟨rfl,hr2,hk2⟩
     rw [hto.out.1]
     rw [hto.out.2] at hr2
     have hc2:w2.cell? ⟨w.heap.size+1+1+1,0,none⟩=some (.string { data:=#[42] }):=by rw [hk2.cell hlb2 (by omega)];exact hc
     have HR2:=Z hr2
     have HK2:=Z (HKR.out.trans hk2)
     have HX2:=Z (HX.out.keeps hk2)
     clear hr2 hk2 HX HF hto hc r2 r3 rf HRr
     go_wp2_with fail
     refine (U HH rb s tr.tail w2 HR2.out).mono ?_
     rintro e w3 ⟨hk3,a',rfl,hp3⟩
     have HK3:=Z (HK2.out.trans hk3)
     have HX3:=Z (HX2.out.keeps hk3)
     have HP3:=Z hp3
     clear hk3 hp3 HX2
     go_wp2_with fail
     have hq:=HP3.out
     cases hv:part tr.tail with
     | none =>
      rw [hv] at hq
      obtain ⟨t3,d3,h1,h2,h3⟩:=hq
      go_roundg 0
      case measure=>omega
      case rel=>exact ⟨_,rfl,HK3.out.alloc _,.inr ⟨t3,d3,h1,h2,h3.alloc _,by rw [<- HCH.out];exact chain_bad HOP.out hv⟩⟩
     | some y =>
      obtain ⟨y,r⟩:=y
      rw [hv] at hq
      have hst:=chain_step HS.out rfl HOP.out hv (x:=x)
      go_roundg (r.length+1)
      case measure=>omega
      case rel=>exact ⟨_,rfl,HK3.out.alloc _,.inl ⟨Pl.tTwo 8 x y,r,by omega,RTree.two hq.2.lt 8 x y _ _ (blk_new _ _) (HX3.out.keeps ((Keeps.refl _ _).alloc _)) (hq.1.keeps ((Keeps.refl _ _).alloc _)),hq.2.alloc _,by rw [<- HCH.out,hst.1]⟩⟩
    ·by_cases hk:(Pl.hd tr).k=18
     ·have hto:Hid (fstI tr false [17,18,19] 0=1/\fstTo tr false [17,18,19]=tr.tail):=by simp [Hid,fstI,fstTo,isK,hk]
      have hop:Pl.prodOp (Pl.hd tr).k=some 9:=by simp [Pl.prodOp,hk]
      have hc:wr.cell? ⟨w.heap.size+1+1+1,1,none⟩=some (.string { data:=#[47] }):=hcs 1 (by decide)
      have HOP:=Z hop
      have hlb:=HL.out.1
      have hlb2:w.heap.size+1+1+1<wr.heap.size:=Nat.lt_of_lt_of_le hlb HKR.out.size
      clear hcs hno hk hop hlb
      go_wp2_with fail
      refine (U HF).mono ?_
      rintro e w2 ⟨rfl,hr2,hk2⟩
      rw [hto.out.1]
      rw [hto.out.2] at hr2
      have hc2:w2.cell? ⟨w.heap.size+1+1+1,1,none⟩=some (.string { data:=#[47] }):=by rw [hk2.cell hlb2 (by omega)];exact hc
      have HR2:=Z hr2
      have HK2:=Z (HKR.out.trans hk2)
      have HX2:=Z (HX.out.keeps hk2)
      clear hr2 hk2 HX HF hto hc r2 r3 rf HRr
      go_wp2_with fail
      refine (U HH rb s tr.tail w2 HR2.out).mono ?_
      rintro e w3 ⟨hk3,a',rfl,hp3⟩
      have HK3:=Z (HK2.out.trans hk3)
      have HX3:=Z (HX2.out.keeps hk3)
      have HP3:=Z hp3
      clear hk3 hp3 HX2
      go_wp2_with fail
      have hq:=HP3.out
      cases hv:part tr.tail with
      | none =>
       rw [hv] at hq
       obtain ⟨t3,d3,h1,h2,h3⟩:=hq
       go_roundg 0
       case measure=>omega
       case rel=>exact ⟨_,rfl,HK3.out.alloc _,.inr ⟨t3,d3,h1,h2,h3.alloc _,by rw [<- HCH.out];exact chain_bad HOP.out hv⟩⟩
      | some y =>
       obtain ⟨y,r⟩:=y
       rw [hv] at hq
       have hst:=chain_step HS.out rfl HOP.out hv (x:=x)
       go_roundg (r.length+1)
       case measure=>omega
       case rel=>exact ⟨_,rfl,HK3.out.alloc _,.inl ⟨Pl.tTwo 9 x y,r,by omega,RTree.two hq.2.lt 9 x y _ _ (blk_new _ _) (HX3.out.keeps ((Keeps.refl _ _).alloc _)) (hq.1.keeps ((Keeps.refl _ _).alloc _)),hq.2.alloc _,by rw [<- HCH.out,hst.1]⟩⟩
     ·have hk:(Pl.hd tr).k=19:=by omega
      have hto:Hid (fstI tr false [17,18,19] 0=2/\fstTo tr false [17,18,19]=tr.tail):=by simp [Hid,fstI,fstTo,isK,hk]
      have hop:Pl.prodOp (Pl.hd tr).k=some 10:=by simp [Pl.prodOp,hk]
      have hc:wr.cell? ⟨w.heap.size+1+1+1,2,none⟩=some (.string { data:=#[37] }):=hcs 2 (by decide)
      have HOP:=Z hop
      have hlb:=HL.out.1
      have hlb2:w.heap.size+1+1+1<wr.heap.size:=Nat.lt_of_lt_of_le hlb HKR.out.size
      clear hcs hno hk hop hlb
      go_wp2_with fail
      refine (U HF).mono ?_
      rintro e w2 ⟨rfl,hr2,hk2⟩
      rw [hto.out.1]
      rw [hto.out.2] at hr2
      have hc2:w2.cell? ⟨w.heap.size+1+1+1,2,none⟩=some (.string { data:=#[37] }):=by rw [hk2.cell hlb2 (by omega)];exact hc
      have HR2:=Z hr2
      have HK2:=Z (HKR.out.trans hk2)
      have HX2:=Z (HX.out.keeps hk2)
      clear hr2 hk2 HX HF hto hc r2 r3 rf HRr
      go_wp2_with fail
      refine (U HH rb s tr.tail w2 HR2.out).mono ?_
      rintro e w3 ⟨hk3,a',rfl,hp3⟩
      have HK3:=Z (HK2.out.trans hk3)
      have HX3:=Z (HX2.out.keeps hk3)
      have HP3:=Z hp3
      clear hk3 hp3 HX2
      go_wp2_with fail
      have hq:=HP3.out
      cases hv:part tr.tail with
      | none =>
       rw [hv] at hq
       obtain ⟨t3,d3,h1,h2,h3⟩:=hq
       go_roundg 0
       case measure=>omega
       case rel=>exact ⟨_,rfl,HK3.out.alloc _,.inr ⟨t3,d3,h1,h2,h3.alloc _,by rw [<- HCH.out];exact chain_bad HOP.out hv⟩⟩
      | some y =>
       obtain ⟨y,r⟩:=y
       rw [hv] at hq
       have hst:=chain_step HS.out rfl HOP.out hv (x:=x)
       go_roundg (r.length+1)
       case measure=>omega
       case rel=>exact ⟨_,rfl,HK3.out.alloc _,.inl ⟨Pl.tTwo 10 x y,r,by omega,RTree.two hq.2.lt 10 x y _ _ (blk_new _ _) (HX3.out.keeps ((Keeps.refl _ _).alloc _)) (hq.1.keeps ((Keeps.refl _ _).alloc _)),hq.2.alloc _,by rw [<- HCH.out,hst.1]⟩⟩
  ·have HRr:=Z hr
   obtain ⟨r2,r3,rf⟩:=hr.c
   have HSN:=Z hspn
   clear hr hspn
   go_wp2_with fail
   go_ret
   exact PostV.none_ (by rw [<- HSP.out,HSN.out]) (HK1.out.trans HKR.out) hd1 hd2 HRr.out
theorem value4_bad (H:CPbad 4):CVbad 4:=by
 intro rb s ts d w hd hR
 have hrb:=hR.lt
 have HH:=Z H
 have HR:=Z hR
 clear H hR
 go_enter Tryz.func185,Tryz.ntmps185
 go_wp2_with fail
 refine (U HH rb s ts d _ hd (by exact (((((HR.out.alloc _).alloc _).alloc _).alloc _).alloc _))).mono ?_
 rintro e w1 ⟨hk1,a,rfl,t1,d1,hd1,hd2,hr1⟩
 have HK1:=Z ((((((Keeps.refl rb w).alloc _).alloc _).alloc _).alloc _).alloc _ |>.trans hk1)
 have HR1:=Z hr1
 obtain ⟨r2,r3,rf⟩:=hr1.c
 clear hk1 hr1 HR
 go_wp2_with fail
 go_loopg [6] 0 (fun g x wr=>x=.pointer a/\wr=w1)
 case atStart=>exact ⟨rfl,rfl⟩
 case round =>
  obtain ⟨rfl,rfl⟩:=hrel
  go_wp2_with fail
  go_ret
  exact PostV.none_ rfl HK1.out hd1 hd2 HR1.out
end Go.Proofs.YtojdpjpldokjmaaGreatDoor
