/- The document's Value: of two truths. -/
import Derived.Test.YtojdpjpldokjmaaGreatDoorF23
import Derived.Test.YtojdpjpldokjmaaGreatDoorF18
import Derived.Test.YtojdpjpldokjmaaGreatDoorF20
set_option maxHeartbeats 60000000
set_option maxRecDepth 100000
namespace Go.Proofs.YtojdpjpldokjmaaGreatDoor
open Go.RowKit Go.Deep
set_option linter.unusedSimpArgs false
set_option linter.unusedVariables false
theorem valueTell (op:Nat)(hop:op=17\/op=18)(a:Pl.V)(ha:a=Pl.tru (op == 18))(o1:Pl.Out Pl.V)(ho1:o1=.ok a)(n:Nat)(al ar:Addr)(kd m:Int)(s src name:List UInt8)(v:Value)(w:World)(hn:w.heap[n]?=some (nodeO op (.pointer (some al)) (.pointer (some ar)) kd m s src name))(hl:VaC o1 v (.pointer (some al)) w)(hv:∃ a l c,v=.slice a l c) :
 Calls Tryz.prog 134 #[.pointer (some ⟨n,0,none⟩),v] w fun e w'=>e=.returned (outE (.ok a))/\Below w.heap.size w w':=by
 subst ho1
 obtain ⟨va,vn,vc,rfl⟩:=hv
 have hnl:=lB hn
 have hB0:Below w.heap.size w (w.alloc zeroO):=(Below.refl _ _).alloc (Nat.le_refl _) _
 have HL:=Z (hl (w.alloc zeroO) hB0)
 have HN:=Z (bA hn zeroO)
 have HB0:=Z hB0
 have hx0:=bC hn 0
 have hx1:=bC hn 1
 simp at hx0 hx1
 clear hl hn hB0
 have HSet:Hid (∀ w1 x y z,Below w.heap.size w w1->Below w.heap.size w (((w1.setCell ⟨w.heap.size,0,none⟩ x).setCell ⟨w.heap.size,1,none⟩ y).setCell ⟨w.heap.size,2,none⟩ z)):=fun w1 x y z hb=>((hb.setCell (Nat.le_refl _) _).setCell (Nat.le_refl _) _).setCell (Nat.le_refl _) _
 have heq:=eql_run
 have HTu:=Z (fun W=>truthR (op == 18) W)
 generalize Pl.tru (op == 18)=tv at *
 have hev:eqB a.kind a.n ⟨a.s.toArray⟩ tv.kind tv.n ⟨tv.s.toArray⟩=true:=by
  have:=eqB_V a tv
  rw [Pl.V.same_yes ha] at this
  exact this
 clear ha
 obtain rfl|rfl:=hop
 all_goals
  simp [signB,signs] at hx0
  simp only [Nat.reduceBEq] at HTu
  go_enter Tryz.func134,Tryz.ntmps134
  go_wp2_with fail
  refine (U HL).mono ?_
  rintro e w1 ⟨rfl,hb1⟩
  simp only [outE,aggR,Pl.nul]
  have hR:=bB hb1 (by simp) (blk_new w zeroO)
  have HB1:=Z (HB0.out.trans (hb1.mono HB0.out.size))
  have hn1:=bB hb1 (lB HN.out) HN.out
  clear HL hx0 hx1
  go_upto_region 8 with fail
  have hA:=blk_new w1 (.cells #[.int .i64 a.kind,.int .i64 a.n,.string ⟨a.s.toArray⟩] 34)
  have hR2:=bA hR (.cells #[.int .i64 a.kind,.int .i64 a.n,.string ⟨a.s.toArray⟩] 34)
  have hn2:=bA hn1 (.cells #[.int .i64 a.kind,.int .i64 a.n,.string ⟨a.s.toArray⟩] 34)
  have HB2:=Z (HB1.out.alloc HB1.out.size (.cells #[.int .i64 a.kind,.int .i64 a.n,.string ⟨a.s.toArray⟩] 34))
  generalize w1.alloc (.cells #[.int .i64 a.kind,.int .i64 a.n,.string ⟨a.s.toArray⟩] 34)=w2 at *
  generalize w1.heap.size=A at *
  obtain ⟨yrz,yr0,yr1,yr2,yrf0,yrf1,yrf2⟩:=blk3 hR2
  obtain ⟨yaz,ya0,ya1,ya2,-⟩:=blk3 hA
  obtain ⟨ynz,yn0,yn2⟩:=blkN hn2
  simp [signB,signs] at yn0
  have HR2:=Z hR2
  have HA2:=Z hA
  have HN2:=Z hn2
  clear hA hR2 hn2 hb1 hR hn1 HB1
  go_wp2_with fail
  refine ((U HTu) w2).mono ?_
  rintro e w3 ⟨rfl,hb3⟩
  simp only [aggR]
  have hR3:=bB hb3 yrz HR2.out
  have hA3:=bB hb3 yaz HA2.out
  have hn3:=bB hb3 ynz HN2.out
  have HB3:=Z (HB2.out.trans (hb3.mono HB2.out.size))
  clear yrz yr0 yr1 yr2 yrf0 yrf1 yrf2 yaz ya0 ya1 ya2 ynz yn0 yn2
  go_upto_region 24 with fail
  have hR4:=bA hR3 (.cells #[.int .i64 tv.kind,.int .i64 tv.n,.string ⟨tv.s.toArray⟩] 34)
  have hA4:=bA hA3 (.cells #[.int .i64 tv.kind,.int .i64 tv.n,.string ⟨tv.s.toArray⟩] 34)
  have hL4:=blk_new w3 (.cells #[.int .i64 tv.kind,.int .i64 tv.n,.string ⟨tv.s.toArray⟩] 34)
  have hn4:=bA hn3 (.cells #[.int .i64 tv.kind,.int .i64 tv.n,.string ⟨tv.s.toArray⟩] 34)
  have HB4:=Z (HB3.out.alloc HB3.out.size (.cells #[.int .i64 tv.kind,.int .i64 tv.n,.string ⟨tv.s.toArray⟩] 34))
  generalize w3.alloc (.cells #[.int .i64 tv.kind,.int .i64 tv.n,.string ⟨tv.s.toArray⟩] 34)=w4 at *
  generalize w3.heap.size=L at *
  obtain ⟨yrz,yr0,yr1,yr2,yrf0,yrf1,yrf2⟩:=blk3 hR4
  obtain ⟨yaz,ya0,ya1,ya2,-⟩:=blk3 hA4
  obtain ⟨ylz,yl0,yl1,yl2,-⟩:=blk3 hL4
  obtain ⟨ynz,yn0,yn2⟩:=blkN hn4
  simp [signB,signs] at yn0
  have HR4:=Z hR4
  have HA4:=Z hA4
  have HL4:=Z hL4
  have HN4:=Z hn4
  clear hR3 hA3 hn3 hR4 hA4 hL4 hn4 hb3 HB2 HB3 HR2 HA2 HN2 HTu
  go_wp2_with fail
  exact retV HR4.out rfl rfl ⟨rfl,HSet.out _ _ _ _ HB4.out⟩
theorem joined_tell (a b tv:Pl.V)(h:b=tv):Pl.joined a b tv=b:=by unfold Pl.joined;rw [if_pos (.inl h)]
theorem joined_miss {a b tv:Pl.V}(hao:Pl.okV a)(hbo:Pl.okV b)(hbe:b≠tv)(hm:(a.miss || b.miss)=true):Pl.joined a b tv=Pl.nul:=by
 have hn0:∀ c:Pl.V,Pl.okV c->c.miss=true->c=Pl.nul:=fun c hc h=>by
  have hk:c.kind=0:=by simpa [Pl.V.miss] using h
  rcases hc with h|h|h|h
  ·obtain ⟨k,n,s⟩:=c;simp at h;obtain ⟨rfl,rfl,rfl⟩:=h;rfl
  all_goals omega
 unfold Pl.joined
 cases hb:b.miss with
 | true=>rw [if_pos (.inr rfl)];exact hn0 b hbo hb
 | false =>
  rw [if_neg (fun h=>h.elim hbe (fun h=>by cases h))]
  exact hn0 a hao (by rw [hb] at hm;simpa using hm)
theorem joined_both {a b:Pl.V}(t:Bool)(hao:Pl.okV a)(hbo:Pl.okV b)(hat:Pl.ofType 3 a)(hbt:Pl.ofType 3 b)(ha:a≠Pl.tru t)(hbe:b≠Pl.tru t)(h1:a.miss=false)(h2:b.miss=false):Pl.joined a b (Pl.tru t)=b:=by
 have hne:∀ c:Pl.V,Pl.okV c->Pl.ofType 3 c->c.miss=false->c≠Pl.tru t->c=Pl.tru (!t):=fun c hc ht h hne=>by
  have hk:c.kind≠0:=by simpa [Pl.V.miss] using h
  obtain ⟨k,n,s⟩:=c
  unfold Pl.ofType at ht
  unfold Pl.okV at hc
  simp [Pl.tru] at *
  have hk3:k=3:=by omega
  subst hk3
  simp at hc
  obtain ⟨h4,rfl⟩:=hc
  cases t <;> rcases h4 with rfl|rfl <;> simp_all
 unfold Pl.joined
 rw [if_neg (fun h=>h.elim hbe (fun h=>by rw [h2] at h;cases h))]
 rw [hne a hao hat h1 ha,hne b hbo hbt h2 hbe]
theorem valueBool (op:Nat)(hop:op=17\/op=18)(a:Pl.V)(ha:a≠Pl.tru (op == 18))(hao:Pl.okV a)(hat:Pl.ofType 3 a)(o1 o2:Pl.Out Pl.V)(ho1:o1=.ok a)(ho2:∀ b,o2=.ok b->Pl.okV b/\Pl.ofType 3 b)(he2:∀ e,o2=.error e->e≠0)(n:Nat)(al ar:Addr)(kd m:Int)(s src name:List UInt8)(v:Value)(w:World)(hn:w.heap[n]?=some (nodeO op (.pointer (some al)) (.pointer (some ar)) kd m s src name))(hl:VaC o1 v (.pointer (some al)) w)(hr:VaC o2 v (.pointer (some ar)) w)(hv:∃ a l c,v=.slice a l c) :
 Calls Tryz.prog 134 #[.pointer (some ⟨n,0,none⟩),v] w fun e w'=>e=.returned (outE (Pl.snd2 op a o2))/\Below w.heap.size w w':=by
 subst ho1
 obtain ⟨va,vn,vc,rfl⟩:=hv
 have hnl:=lB hn
 have hB0:Below w.heap.size w (w.alloc zeroO):=(Below.refl _ _).alloc (Nat.le_refl _) _
 have HL:=Z (hl (w.alloc zeroO) hB0)
 have HRt:=Z hr
 have HN:=Z (bA hn zeroO)
 have HB0:=Z hB0
 have hx0:=bC hn 0
 have hx1:=bC hn 1
 simp at hx0 hx1
 clear hl hn hB0 hr
 have HSet:Hid (∀ w1 x y z,Below w.heap.size w w1->Below w.heap.size w (((w1.setCell ⟨w.heap.size,0,none⟩ x).setCell ⟨w.heap.size,1,none⟩ y).setCell ⟨w.heap.size,2,none⟩ z)):=fun w1 x y z hb=>((hb.setCell (Nat.le_refl _) _).setCell (Nat.le_refl _) _).setCell (Nat.le_refl _) _
 have heq:=eql_run
 have HTu:=Z (fun W=>truthR (op == 18) W)
 have HJ:Hid (∀ b,Pl.okV b->Pl.ofType 3 b->Pl.ap2 op a b=.ok (Pl.joined a b (Pl.tru (op == 18)))/\(b≠Pl.tru (op == 18)->a.miss=false->b.miss=false->Pl.joined a b (Pl.tru (op == 18))=b)):=fun b hbo hbt=>⟨by unfold Pl.ap2;rw [if_pos (by omega)],fun hbe h1 h2=>joined_both _ hao hbo hat hbt ha hbe h1 h2⟩
 generalize Pl.tru (op == 18)=tv at *
 have hev:eqB a.kind a.n ⟨a.s.toArray⟩ tv.kind tv.n ⟨tv.s.toArray⟩=false:=by
  have:=eqB_V a tv
  rw [Pl.V.same_no ha] at this
  exact this
 cases o2 with
 | error er =>
  simp only [Pl.snd2]
  have her:(((er:Nat):Int) != 0)=true:=by have:=he2 er rfl;simp;omega
  clear ho2 he2 ha hao hat HJ
  obtain rfl|rfl:=hop
  all_goals
   simp [signB,signs] at hx0
   simp only [Nat.reduceBEq] at HTu
   go_enter Tryz.func134,Tryz.ntmps134
   go_wp2_with fail
   refine (U HL).mono ?_
   rintro e w1 ⟨rfl,hb1⟩
   simp only [outE,aggR,Pl.nul]
   have hR:=bB hb1 (by simp) (blk_new w zeroO)
   have HB1:=Z (HB0.out.trans (hb1.mono HB0.out.size))
   have hn1:=bB hb1 (lB HN.out) HN.out
   clear HL hx0 hx1
   go_upto_region 8 with fail
   have hA:=blk_new w1 (.cells #[.int .i64 a.kind,.int .i64 a.n,.string ⟨a.s.toArray⟩] 34)
   have hR2:=bA hR (.cells #[.int .i64 a.kind,.int .i64 a.n,.string ⟨a.s.toArray⟩] 34)
   have hn2:=bA hn1 (.cells #[.int .i64 a.kind,.int .i64 a.n,.string ⟨a.s.toArray⟩] 34)
   have HB2:=Z (HB1.out.alloc HB1.out.size (.cells #[.int .i64 a.kind,.int .i64 a.n,.string ⟨a.s.toArray⟩] 34))
   generalize w1.alloc (.cells #[.int .i64 a.kind,.int .i64 a.n,.string ⟨a.s.toArray⟩] 34)=w2 at *
   generalize w1.heap.size=A at *
   obtain ⟨yrz,yr0,yr1,yr2,yrf0,yrf1,yrf2⟩:=blk3 hR2
   obtain ⟨yaz,ya0,ya1,ya2,-⟩:=blk3 hA
   obtain ⟨ynz,yn0,yn2⟩:=blkN hn2
   simp [signB,signs] at yn0
   have HR2:=Z hR2
   have HA2:=Z hA
   have HN2:=Z hn2
   clear hA hR2 hn2 hb1 hR hn1 HB1
   go_wp2_with fail
   refine ((U HTu) w2).mono ?_
   rintro e w3 ⟨rfl,hb3⟩
   simp only [aggR]
   have hR3:=bB hb3 yrz HR2.out
   have hA3:=bB hb3 yaz HA2.out
   have hn3:=bB hb3 ynz HN2.out
   have HB3:=Z (HB2.out.trans (hb3.mono HB2.out.size))
   clear yrz yr0 yr1 yr2 yrf0 yrf1 yrf2 yaz ya0 ya1 ya2 ynz yn0 yn2
   go_upto_region 24 with fail
   have hR4:=bA hR3 (.cells #[.int .i64 tv.kind,.int .i64 tv.n,.string ⟨tv.s.toArray⟩] 34)
   have hA4:=bA hA3 (.cells #[.int .i64 tv.kind,.int .i64 tv.n,.string ⟨tv.s.toArray⟩] 34)
   have hL4:=blk_new w3 (.cells #[.int .i64 tv.kind,.int .i64 tv.n,.string ⟨tv.s.toArray⟩] 34)
   have hn4:=bA hn3 (.cells #[.int .i64 tv.kind,.int .i64 tv.n,.string ⟨tv.s.toArray⟩] 34)
   have HB4:=Z (HB3.out.alloc HB3.out.size (.cells #[.int .i64 tv.kind,.int .i64 tv.n,.string ⟨tv.s.toArray⟩] 34))
   generalize w3.alloc (.cells #[.int .i64 tv.kind,.int .i64 tv.n,.string ⟨tv.s.toArray⟩] 34)=w4 at *
   generalize w3.heap.size=L at *
   obtain ⟨yrz,yr0,yr1,yr2,yrf0,yrf1,yrf2⟩:=blk3 hR4
   obtain ⟨yaz,ya0,ya1,ya2,-⟩:=blk3 hA4
   obtain ⟨ylz,yl0,yl1,yl2,-⟩:=blk3 hL4
   obtain ⟨ynz,yn0,yn2⟩:=blkN hn4
   simp [signB,signs] at yn0
   have HR4:=Z hR4
   have HA4:=Z hA4
   have HL4:=Z hL4
   have HN4:=Z hn4
   clear hR3 hA3 hn3 hR4 hA4 hL4 hn4 hb3 HB2 HB3 HR2 HA2 HN2 HTu
   go_wp2_with fail
   refine ((U HRt) w4 HB4.out).mono ?_
   rintro e w5 ⟨rfl,hb5⟩
   simp only [outE,aggR,Pl.nul]
   have hR5:=bB hb5 yrz HR4.out
   have hA5:=bB hb5 yaz HA4.out
   have hL5:=bB hb5 ylz HL4.out
   have hn5:=bB hb5 ynz HN4.out
   have HB5:=Z (HB4.out.trans (hb5.mono HB4.out.size))
   clear yrz yr0 yr1 yr2 yrf0 yrf1 yrf2 yaz ya0 ya1 ya2 ylz yl0 yl1 yl2 ynz yn0 yn2
   go_upto_region 27 with fail
   have hR6:=bA hR5 (.cells #[.int .i64 0,.int .i64 0,.string ⟨#[]⟩] 34)
   have hA6:=bA hA5 (.cells #[.int .i64 0,.int .i64 0,.string ⟨#[]⟩] 34)
   have hL6:=bA hL5 (.cells #[.int .i64 0,.int .i64 0,.string ⟨#[]⟩] 34)
   have hB6:=blk_new w5 (.cells #[.int .i64 0,.int .i64 0,.string ⟨#[]⟩] 34)
   have hn6:=bA hn5 (.cells #[.int .i64 0,.int .i64 0,.string ⟨#[]⟩] 34)
   have HB6:=Z (HB5.out.alloc HB5.out.size (.cells #[.int .i64 0,.int .i64 0,.string ⟨#[]⟩] 34))
   generalize w5.alloc (.cells #[.int .i64 0,.int .i64 0,.string ⟨#[]⟩] 34)=w6 at *
   generalize w5.heap.size=B at *
   obtain ⟨yrz,yr0,yr1,yr2,yrf0,yrf1,yrf2⟩:=blk3 hR6
   obtain ⟨yaz,ya0,ya1,ya2,-⟩:=blk3 hA6
   obtain ⟨ylz,yl0,yl1,yl2,-⟩:=blk3 hL6
   obtain ⟨ybz,yb0,yb1,yb2,-⟩:=blk3 hB6
   obtain ⟨ynz,yn0,-⟩:=blkN hn6
   simp [signB,signs] at yn0
   have HR6:=Z hR6
   have HA6:=Z hA6
   have HBb6:=Z hB6
   have HN6:=Z hn6
   clear hR5 hA5 hL5 hn5 hR6 hA6 hL6 hB6 hn6 hb5 HB4 HB5 HR4 HA4 HL4 HN4 HRt
   go_wp2_with fail
   exact retV HR6.out rfl rfl ⟨rfl,HSet.out _ _ _ _ HB6.out⟩
 | ok b =>
  simp only [Pl.snd2]
  obtain ⟨hbo,hbt⟩:=ho2 b rfl
  clear ho2 he2
  obtain ⟨hap,hjb⟩:=HJ.out b hbo hbt
  rw [hap]
  clear hap HJ
  by_cases hbe:b=tv
  ·rw [joined_tell a b tv hbe]
   have hevb:eqB b.kind b.n ⟨b.s.toArray⟩ tv.kind tv.n ⟨tv.s.toArray⟩=true:=by
    have:=eqB_V b tv
    rw [Pl.V.same_yes hbe] at this
    exact this
   clear hbe ha hao hat hbo hbt hjb
   obtain rfl|rfl:=hop
   all_goals
    simp [signB,signs] at hx0
    simp only [Nat.reduceBEq] at HTu
    go_enter Tryz.func134,Tryz.ntmps134
    go_wp2_with fail
    refine (U HL).mono ?_
    rintro e w1 ⟨rfl,hb1⟩
    simp only [outE,aggR,Pl.nul]
    have hR:=bB hb1 (by simp) (blk_new w zeroO)
    have HB1:=Z (HB0.out.trans (hb1.mono HB0.out.size))
    have hn1:=bB hb1 (lB HN.out) HN.out
    clear HL hx0 hx1
    go_upto_region 8 with fail
    have hA:=blk_new w1 (.cells #[.int .i64 a.kind,.int .i64 a.n,.string ⟨a.s.toArray⟩] 34)
    have hR2:=bA hR (.cells #[.int .i64 a.kind,.int .i64 a.n,.string ⟨a.s.toArray⟩] 34)
    have hn2:=bA hn1 (.cells #[.int .i64 a.kind,.int .i64 a.n,.string ⟨a.s.toArray⟩] 34)
    have HB2:=Z (HB1.out.alloc HB1.out.size (.cells #[.int .i64 a.kind,.int .i64 a.n,.string ⟨a.s.toArray⟩] 34))
    generalize w1.alloc (.cells #[.int .i64 a.kind,.int .i64 a.n,.string ⟨a.s.toArray⟩] 34)=w2 at *
    generalize w1.heap.size=A at *
    obtain ⟨yrz,yr0,yr1,yr2,yrf0,yrf1,yrf2⟩:=blk3 hR2
    obtain ⟨yaz,ya0,ya1,ya2,-⟩:=blk3 hA
    obtain ⟨ynz,yn0,yn2⟩:=blkN hn2
    simp [signB,signs] at yn0
    have HR2:=Z hR2
    have HA2:=Z hA
    have HN2:=Z hn2
    clear hA hR2 hn2 hb1 hR hn1 HB1
    go_wp2_with fail
    refine ((U HTu) w2).mono ?_
    rintro e w3 ⟨rfl,hb3⟩
    simp only [aggR]
    have hR3:=bB hb3 yrz HR2.out
    have hA3:=bB hb3 yaz HA2.out
    have hn3:=bB hb3 ynz HN2.out
    have HB3:=Z (HB2.out.trans (hb3.mono HB2.out.size))
    clear yrz yr0 yr1 yr2 yrf0 yrf1 yrf2 yaz ya0 ya1 ya2 ynz yn0 yn2
    go_upto_region 24 with fail
    have hR4:=bA hR3 (.cells #[.int .i64 tv.kind,.int .i64 tv.n,.string ⟨tv.s.toArray⟩] 34)
    have hA4:=bA hA3 (.cells #[.int .i64 tv.kind,.int .i64 tv.n,.string ⟨tv.s.toArray⟩] 34)
    have hL4:=blk_new w3 (.cells #[.int .i64 tv.kind,.int .i64 tv.n,.string ⟨tv.s.toArray⟩] 34)
    have hn4:=bA hn3 (.cells #[.int .i64 tv.kind,.int .i64 tv.n,.string ⟨tv.s.toArray⟩] 34)
    have HB4:=Z (HB3.out.alloc HB3.out.size (.cells #[.int .i64 tv.kind,.int .i64 tv.n,.string ⟨tv.s.toArray⟩] 34))
    generalize w3.alloc (.cells #[.int .i64 tv.kind,.int .i64 tv.n,.string ⟨tv.s.toArray⟩] 34)=w4 at *
    generalize w3.heap.size=L at *
    obtain ⟨yrz,yr0,yr1,yr2,yrf0,yrf1,yrf2⟩:=blk3 hR4
    obtain ⟨yaz,ya0,ya1,ya2,-⟩:=blk3 hA4
    obtain ⟨ylz,yl0,yl1,yl2,-⟩:=blk3 hL4
    obtain ⟨ynz,yn0,yn2⟩:=blkN hn4
    simp [signB,signs] at yn0
    have HR4:=Z hR4
    have HA4:=Z hA4
    have HL4:=Z hL4
    have HN4:=Z hn4
    clear hR3 hA3 hn3 hR4 hA4 hL4 hn4 hb3 HB2 HB3 HR2 HA2 HN2 HTu
    go_wp2_with fail
    refine ((U HRt) w4 HB4.out).mono ?_
    rintro e w5 ⟨rfl,hb5⟩
    simp only [outE,aggR,Pl.nul]
    have hR5:=bB hb5 yrz HR4.out
    have hA5:=bB hb5 yaz HA4.out
    have hL5:=bB hb5 ylz HL4.out
    have hn5:=bB hb5 ynz HN4.out
    have HB5:=Z (HB4.out.trans (hb5.mono HB4.out.size))
    clear yrz yr0 yr1 yr2 yrf0 yrf1 yrf2 yaz ya0 ya1 ya2 ylz yl0 yl1 yl2 ynz yn0 yn2
    go_upto_region 27 with fail
    have hR6:=bA hR5 (.cells #[.int .i64 b.kind,.int .i64 b.n,.string ⟨b.s.toArray⟩] 34)
    have hA6:=bA hA5 (.cells #[.int .i64 b.kind,.int .i64 b.n,.string ⟨b.s.toArray⟩] 34)
    have hL6:=bA hL5 (.cells #[.int .i64 b.kind,.int .i64 b.n,.string ⟨b.s.toArray⟩] 34)
    have hB6:=blk_new w5 (.cells #[.int .i64 b.kind,.int .i64 b.n,.string ⟨b.s.toArray⟩] 34)
    have hn6:=bA hn5 (.cells #[.int .i64 b.kind,.int .i64 b.n,.string ⟨b.s.toArray⟩] 34)
    have HB6:=Z (HB5.out.alloc HB5.out.size (.cells #[.int .i64 b.kind,.int .i64 b.n,.string ⟨b.s.toArray⟩] 34))
    generalize w5.alloc (.cells #[.int .i64 b.kind,.int .i64 b.n,.string ⟨b.s.toArray⟩] 34)=w6 at *
    generalize w5.heap.size=B at *
    obtain ⟨yrz,yr0,yr1,yr2,yrf0,yrf1,yrf2⟩:=blk3 hR6
    obtain ⟨yaz,ya0,ya1,ya2,-⟩:=blk3 hA6
    obtain ⟨ylz,yl0,yl1,yl2,-⟩:=blk3 hL6
    obtain ⟨ybz,yb0,yb1,yb2,-⟩:=blk3 hB6
    obtain ⟨ynz,yn0,-⟩:=blkN hn6
    simp [signB,signs] at yn0
    have HR6:=Z hR6
    have HA6:=Z hA6
    have HBb6:=Z hB6
    have HN6:=Z hn6
    clear hR5 hA5 hL5 hn5 hR6 hA6 hL6 hB6 hn6 hb5 HB4 HB5 HR4 HA4 HL4 HN4 HRt
    go_wp2_with fail
    exact retV HR6.out rfl rfl ⟨rfl,HSet.out _ _ _ _ HB6.out⟩
  ·have hevb:eqB b.kind b.n ⟨b.s.toArray⟩ tv.kind tv.n ⟨tv.s.toArray⟩=false:=by
    have:=eqB_V b tv
    rw [Pl.V.same_no hbe] at this
    exact this
   cases hm:(a.miss || b.miss) with
   | true =>
    rw [joined_miss hao hbo hbe hm]
    have hm2:(a.kind == 0)=true\/((a.kind == 0)=false/\(b.kind == 0)=true):=by
     unfold Pl.V.miss at hm
     cases h1:(a.kind == 0) with
     | true=>exact .inl rfl
     | false=>rw [h1] at hm;exact .inr ⟨rfl,by simpa using hm⟩
    clear hm hbe ha hao hat hbo hbt hjb
    obtain rfl|rfl:=hop
    all_goals
     simp [signB,signs] at hx0
     simp only [Nat.reduceBEq] at HTu
     rcases hm2 with g0|⟨g0,g1⟩
     all_goals
      go_enter Tryz.func134,Tryz.ntmps134
      go_wp2_with fail
      refine (U HL).mono ?_
      rintro e w1 ⟨rfl,hb1⟩
      simp only [outE,aggR,Pl.nul]
      have hR:=bB hb1 (by simp) (blk_new w zeroO)
      have HB1:=Z (HB0.out.trans (hb1.mono HB0.out.size))
      have hn1:=bB hb1 (lB HN.out) HN.out
      clear HL hx0 hx1
      go_upto_region 8 with fail
      have hA:=blk_new w1 (.cells #[.int .i64 a.kind,.int .i64 a.n,.string ⟨a.s.toArray⟩] 34)
      have hR2:=bA hR (.cells #[.int .i64 a.kind,.int .i64 a.n,.string ⟨a.s.toArray⟩] 34)
      have hn2:=bA hn1 (.cells #[.int .i64 a.kind,.int .i64 a.n,.string ⟨a.s.toArray⟩] 34)
      have HB2:=Z (HB1.out.alloc HB1.out.size (.cells #[.int .i64 a.kind,.int .i64 a.n,.string ⟨a.s.toArray⟩] 34))
      generalize w1.alloc (.cells #[.int .i64 a.kind,.int .i64 a.n,.string ⟨a.s.toArray⟩] 34)=w2 at *
      generalize w1.heap.size=A at *
      obtain ⟨yrz,yr0,yr1,yr2,yrf0,yrf1,yrf2⟩:=blk3 hR2
      obtain ⟨yaz,ya0,ya1,ya2,-⟩:=blk3 hA
      obtain ⟨ynz,yn0,yn2⟩:=blkN hn2
      simp [signB,signs] at yn0
      have HR2:=Z hR2
      have HA2:=Z hA
      have HN2:=Z hn2
      clear hA hR2 hn2 hb1 hR hn1 HB1
      go_wp2_with fail
      refine ((U HTu) w2).mono ?_
      rintro e w3 ⟨rfl,hb3⟩
      simp only [aggR]
      have hR3:=bB hb3 yrz HR2.out
      have hA3:=bB hb3 yaz HA2.out
      have hn3:=bB hb3 ynz HN2.out
      have HB3:=Z (HB2.out.trans (hb3.mono HB2.out.size))
      clear yrz yr0 yr1 yr2 yrf0 yrf1 yrf2 yaz ya0 ya1 ya2 ynz yn0 yn2
      go_upto_region 24 with fail
      have hR4:=bA hR3 (.cells #[.int .i64 tv.kind,.int .i64 tv.n,.string ⟨tv.s.toArray⟩] 34)
      have hA4:=bA hA3 (.cells #[.int .i64 tv.kind,.int .i64 tv.n,.string ⟨tv.s.toArray⟩] 34)
      have hL4:=blk_new w3 (.cells #[.int .i64 tv.kind,.int .i64 tv.n,.string ⟨tv.s.toArray⟩] 34)
      have hn4:=bA hn3 (.cells #[.int .i64 tv.kind,.int .i64 tv.n,.string ⟨tv.s.toArray⟩] 34)
      have HB4:=Z (HB3.out.alloc HB3.out.size (.cells #[.int .i64 tv.kind,.int .i64 tv.n,.string ⟨tv.s.toArray⟩] 34))
      generalize w3.alloc (.cells #[.int .i64 tv.kind,.int .i64 tv.n,.string ⟨tv.s.toArray⟩] 34)=w4 at *
      generalize w3.heap.size=L at *
      obtain ⟨yrz,yr0,yr1,yr2,yrf0,yrf1,yrf2⟩:=blk3 hR4
      obtain ⟨yaz,ya0,ya1,ya2,-⟩:=blk3 hA4
      obtain ⟨ylz,yl0,yl1,yl2,-⟩:=blk3 hL4
      obtain ⟨ynz,yn0,yn2⟩:=blkN hn4
      simp [signB,signs] at yn0
      have HR4:=Z hR4
      have HA4:=Z hA4
      have HL4:=Z hL4
      have HN4:=Z hn4
      clear hR3 hA3 hn3 hR4 hA4 hL4 hn4 hb3 HB2 HB3 HR2 HA2 HN2 HTu
      go_wp2_with fail
      refine ((U HRt) w4 HB4.out).mono ?_
      rintro e w5 ⟨rfl,hb5⟩
      simp only [outE,aggR,Pl.nul]
      have hR5:=bB hb5 yrz HR4.out
      have hA5:=bB hb5 yaz HA4.out
      have hL5:=bB hb5 ylz HL4.out
      have hn5:=bB hb5 ynz HN4.out
      have HB5:=Z (HB4.out.trans (hb5.mono HB4.out.size))
      clear yrz yr0 yr1 yr2 yrf0 yrf1 yrf2 yaz ya0 ya1 ya2 ylz yl0 yl1 yl2 ynz yn0 yn2
      go_upto_region 27 with fail
      have hR6:=bA hR5 (.cells #[.int .i64 b.kind,.int .i64 b.n,.string ⟨b.s.toArray⟩] 34)
      have hA6:=bA hA5 (.cells #[.int .i64 b.kind,.int .i64 b.n,.string ⟨b.s.toArray⟩] 34)
      have hL6:=bA hL5 (.cells #[.int .i64 b.kind,.int .i64 b.n,.string ⟨b.s.toArray⟩] 34)
      have hB6:=blk_new w5 (.cells #[.int .i64 b.kind,.int .i64 b.n,.string ⟨b.s.toArray⟩] 34)
      have hn6:=bA hn5 (.cells #[.int .i64 b.kind,.int .i64 b.n,.string ⟨b.s.toArray⟩] 34)
      have HB6:=Z (HB5.out.alloc HB5.out.size (.cells #[.int .i64 b.kind,.int .i64 b.n,.string ⟨b.s.toArray⟩] 34))
      generalize w5.alloc (.cells #[.int .i64 b.kind,.int .i64 b.n,.string ⟨b.s.toArray⟩] 34)=w6 at *
      generalize w5.heap.size=B at *
      obtain ⟨yrz,yr0,yr1,yr2,yrf0,yrf1,yrf2⟩:=blk3 hR6
      obtain ⟨yaz,ya0,ya1,ya2,-⟩:=blk3 hA6
      obtain ⟨ylz,yl0,yl1,yl2,-⟩:=blk3 hL6
      obtain ⟨ybz,yb0,yb1,yb2,-⟩:=blk3 hB6
      obtain ⟨ynz,yn0,-⟩:=blkN hn6
      simp [signB,signs] at yn0
      have HR6:=Z hR6
      have HA6:=Z hA6
      have HBb6:=Z hB6
      have HN6:=Z hn6
      clear hR5 hA5 hL5 hn5 hR6 hA6 hL6 hB6 hn6 hb5 HB4 HB5 HR4 HA4 HL4 HN4 HRt
      go_wp2_with fail
      exact retV HR6.out rfl rfl ⟨rfl,HSet.out _ _ _ _ HB6.out⟩
   | false =>
    obtain ⟨h1,h2⟩:a.miss=false/\b.miss=false:=by simpa using hm
    have g0:(a.kind == 0)=false:=h1
    have g1:(b.kind == 0)=false:=h2
    rw [hjb hbe h1 h2]
    clear hm hbe ha hao hat hbo hbt h1 h2 hjb
    obtain rfl|rfl:=hop
    all_goals
     simp [signB,signs] at hx0
     simp only [Nat.reduceBEq] at HTu
     go_enter Tryz.func134,Tryz.ntmps134
     go_wp2_with fail
     refine (U HL).mono ?_
     rintro e w1 ⟨rfl,hb1⟩
     simp only [outE,aggR,Pl.nul]
     have hR:=bB hb1 (by simp) (blk_new w zeroO)
     have HB1:=Z (HB0.out.trans (hb1.mono HB0.out.size))
     have hn1:=bB hb1 (lB HN.out) HN.out
     clear HL hx0 hx1
     go_upto_region 8 with fail
     have hA:=blk_new w1 (.cells #[.int .i64 a.kind,.int .i64 a.n,.string ⟨a.s.toArray⟩] 34)
     have hR2:=bA hR (.cells #[.int .i64 a.kind,.int .i64 a.n,.string ⟨a.s.toArray⟩] 34)
     have hn2:=bA hn1 (.cells #[.int .i64 a.kind,.int .i64 a.n,.string ⟨a.s.toArray⟩] 34)
     have HB2:=Z (HB1.out.alloc HB1.out.size (.cells #[.int .i64 a.kind,.int .i64 a.n,.string ⟨a.s.toArray⟩] 34))
     generalize w1.alloc (.cells #[.int .i64 a.kind,.int .i64 a.n,.string ⟨a.s.toArray⟩] 34)=w2 at *
     generalize w1.heap.size=A at *
     obtain ⟨yrz,yr0,yr1,yr2,yrf0,yrf1,yrf2⟩:=blk3 hR2
     obtain ⟨yaz,ya0,ya1,ya2,-⟩:=blk3 hA
     obtain ⟨ynz,yn0,yn2⟩:=blkN hn2
     simp [signB,signs] at yn0
     have HR2:=Z hR2
     have HA2:=Z hA
     have HN2:=Z hn2
     clear hA hR2 hn2 hb1 hR hn1 HB1
     go_wp2_with fail
     refine ((U HTu) w2).mono ?_
     rintro e w3 ⟨rfl,hb3⟩
     simp only [aggR]
     have hR3:=bB hb3 yrz HR2.out
     have hA3:=bB hb3 yaz HA2.out
     have hn3:=bB hb3 ynz HN2.out
     have HB3:=Z (HB2.out.trans (hb3.mono HB2.out.size))
     clear yrz yr0 yr1 yr2 yrf0 yrf1 yrf2 yaz ya0 ya1 ya2 ynz yn0 yn2
     go_upto_region 24 with fail
     have hR4:=bA hR3 (.cells #[.int .i64 tv.kind,.int .i64 tv.n,.string ⟨tv.s.toArray⟩] 34)
     have hA4:=bA hA3 (.cells #[.int .i64 tv.kind,.int .i64 tv.n,.string ⟨tv.s.toArray⟩] 34)
     have hL4:=blk_new w3 (.cells #[.int .i64 tv.kind,.int .i64 tv.n,.string ⟨tv.s.toArray⟩] 34)
     have hn4:=bA hn3 (.cells #[.int .i64 tv.kind,.int .i64 tv.n,.string ⟨tv.s.toArray⟩] 34)
     have HB4:=Z (HB3.out.alloc HB3.out.size (.cells #[.int .i64 tv.kind,.int .i64 tv.n,.string ⟨tv.s.toArray⟩] 34))
     generalize w3.alloc (.cells #[.int .i64 tv.kind,.int .i64 tv.n,.string ⟨tv.s.toArray⟩] 34)=w4 at *
     generalize w3.heap.size=L at *
     obtain ⟨yrz,yr0,yr1,yr2,yrf0,yrf1,yrf2⟩:=blk3 hR4
     obtain ⟨yaz,ya0,ya1,ya2,-⟩:=blk3 hA4
     obtain ⟨ylz,yl0,yl1,yl2,-⟩:=blk3 hL4
     obtain ⟨ynz,yn0,yn2⟩:=blkN hn4
     simp [signB,signs] at yn0
     have HR4:=Z hR4
     have HA4:=Z hA4
     have HL4:=Z hL4
     have HN4:=Z hn4
     clear hR3 hA3 hn3 hR4 hA4 hL4 hn4 hb3 HB2 HB3 HR2 HA2 HN2 HTu
     go_wp2_with fail
     refine ((U HRt) w4 HB4.out).mono ?_
     rintro e w5 ⟨rfl,hb5⟩
     simp only [outE,aggR,Pl.nul]
     have hR5:=bB hb5 yrz HR4.out
     have hA5:=bB hb5 yaz HA4.out
     have hL5:=bB hb5 ylz HL4.out
     have hn5:=bB hb5 ynz HN4.out
     have HB5:=Z (HB4.out.trans (hb5.mono HB4.out.size))
     clear yrz yr0 yr1 yr2 yrf0 yrf1 yrf2 yaz ya0 ya1 ya2 ylz yl0 yl1 yl2 ynz yn0 yn2
     go_upto_region 27 with fail
     have hR6:=bA hR5 (.cells #[.int .i64 b.kind,.int .i64 b.n,.string ⟨b.s.toArray⟩] 34)
     have hA6:=bA hA5 (.cells #[.int .i64 b.kind,.int .i64 b.n,.string ⟨b.s.toArray⟩] 34)
     have hL6:=bA hL5 (.cells #[.int .i64 b.kind,.int .i64 b.n,.string ⟨b.s.toArray⟩] 34)
     have hB6:=blk_new w5 (.cells #[.int .i64 b.kind,.int .i64 b.n,.string ⟨b.s.toArray⟩] 34)
     have hn6:=bA hn5 (.cells #[.int .i64 b.kind,.int .i64 b.n,.string ⟨b.s.toArray⟩] 34)
     have HB6:=Z (HB5.out.alloc HB5.out.size (.cells #[.int .i64 b.kind,.int .i64 b.n,.string ⟨b.s.toArray⟩] 34))
     generalize w5.alloc (.cells #[.int .i64 b.kind,.int .i64 b.n,.string ⟨b.s.toArray⟩] 34)=w6 at *
     generalize w5.heap.size=B at *
     obtain ⟨yrz,yr0,yr1,yr2,yrf0,yrf1,yrf2⟩:=blk3 hR6
     obtain ⟨yaz,ya0,ya1,ya2,-⟩:=blk3 hA6
     obtain ⟨ylz,yl0,yl1,yl2,-⟩:=blk3 hL6
     obtain ⟨ybz,yb0,yb1,yb2,-⟩:=blk3 hB6
     obtain ⟨ynz,yn0,-⟩:=blkN hn6
     simp [signB,signs] at yn0
     have HR6:=Z hR6
     have HA6:=Z hA6
     have HBb6:=Z hB6
     have HN6:=Z hn6
     clear hR5 hA5 hL5 hn5 hR6 hA6 hL6 hB6 hn6 hb5 HB4 HB5 HR4 HA4 HL4 HN4 HRt
     go_wp2_with fail
     exact retV HR6.out rfl rfl ⟨rfl,HSet.out _ _ _ _ HB6.out⟩
theorem tc_two {cols:List Pl.Col}{ta tb:Nat}{p:Pl.Pay}{l r:Pl.T}{ty:Int}(h1:¬ p.op<=5)(h:Pl.tc cols (.node ta tb p l r)=.ok ty):∃ a b,Pl.tc cols l=.ok a/\Pl.tc cols r=.ok b/\Pl.fit p.op a b=.ok ty:=by
 unfold Pl.tc at h
 rw [if_neg (by omega),if_neg (by omega)] at h
 cases hl:Pl.tc cols l with
 | error e=>rw [hl] at h;cases h
 | ok a =>
  rw [hl] at h
  simp only at h
  rw [if_neg h1] at h
  cases hr:Pl.tc cols r with
  | error e=>rw [hr] at h;cases h
  | ok b=>rw [hr] at h;exact ⟨a,b,rfl,rfl,h⟩
theorem tc_one {cols:List Pl.Col}{ta tb:Nat}{p:Pl.Pay}{l r:Pl.T}{ty:Int}(h2:2<=p.op)(h1:p.op<=5)(h:Pl.tc cols (.node ta tb p l r)=.ok ty):∃ a,Pl.tc cols l=.ok a/\Pl.fit p.op a a=.ok ty:=by
 unfold Pl.tc at h
 rw [if_neg (by omega),if_neg (by omega)] at h
 cases hl:Pl.tc cols l with
 | error e=>rw [hl] at h;cases h
 | ok a =>
  rw [hl] at h
  simp only at h
  rw [if_pos h1] at h
  exact ⟨a,rfl,h⟩
theorem of_both {x y:Pl.V}{a b:Int}(hx:Pl.ofType a x)(hy:Pl.ofType b y)(hab:Pl.alike a b=true)(h1:x.miss=false)(h2:y.miss=false):∃ ty,Pl.ofType ty x/\Pl.ofType ty y:=by
 have k1:x.kind≠0:=by simpa [Pl.V.miss] using h1
 have k2:y.kind≠0:=by simpa [Pl.V.miss] using h2
 have e1:x.kind=a:=hx.resolve_left k1
 have e2:y.kind=b:=hy.resolve_left k2
 unfold Pl.alike at hab
 have hab':a=b:=by
  simp at hab
  rcases hab with (h|h)|h
  ·exact h
  ·exact absurd (e1.trans h) k1
  ·exact absurd (e2.trans h) k2
 exact ⟨a,hx,by rw [hab'];exact hy⟩
theorem of_three {x:Pl.V}{a:Int}(hx:Pl.ofType a x)(h:Pl.alike a 3=true):Pl.ofType 3 x:=by
 unfold Pl.alike at h
 simp at h
 rcases h with h|h
 ·rw [<- h];exact hx
 ·subst h
  rcases hx with h|h
  ·exact .inl h
  ·exact .inl h
theorem valueTwo (op:Nat)(h6:6<=op)(h18:op<=18)(o1 o2:Pl.Out Pl.V)(ho1:∀ a,o1=.ok a->Pl.okV a)(he1:∀ e,o1=.error e->e≠0)(ho2:∀ b,o2=.ok b->Pl.okV b)(he2:∀ e,o2=.error e->e≠0)
 (hcmp:11<=op->op<=16->∀ a b,o1=.ok a->o2=.ok b->a.miss=false->b.miss=false->Pl.ordR a b=Pl.order a b) (hboo:17<=op->(∀ a,o1=.ok a->Pl.ofType 3 a)/\∀ b,o2=.ok b->Pl.ofType 3 b)
 (n:Nat) (al ar:Addr) (kd m:Int) (s src name:List UInt8) (v:Value) (w:World) (hn:w.heap[n]?=some (nodeO op (.pointer (some al)) (.pointer (some ar)) kd m s src name)) (hl:VaC o1 v (.pointer (some al)) w) (hr:VaC o2 v (.pointer (some ar)) w) (hv:∃ a l c,v=.slice a l c) :
 Calls Tryz.prog 134 #[.pointer (some ⟨n,0,none⟩),v] w fun e w'=>e=.returned (outE (Pl.duo op o1 o2))/\Below w.heap.size w w':=by
 cases hq:o1 with
 | error er=>exact valueErr op h6 h18 er (he1 er hq) o1 hq n al ar kd m s src name v w hn hl hv
 | ok a =>
  have ha:=ho1 a hq
  unfold Pl.duo
  simp only
  by_cases h17:17<=op
  ·obtain ⟨b1,b2⟩:=hboo h17
   by_cases he:a=Pl.tru (op == 18)
   ·rw [if_pos ⟨h17,he⟩]
    exact valueTell op (by omega) a he o1 hq n al ar kd m s src name v w hn hl hv
   ·rw [if_neg (fun h=>he h.2)]
    exact valueBool op (by omega) a he ha (b1 a hq) o1 o2 hq (fun b hb=>⟨ho2 b hb,b2 b hb⟩) he2 n al ar kd m s src name v w hn hl hr hv
  ·rw [if_neg (fun h=>h17 h.1)]
   by_cases h11:11<=op
   ·have hc:=fun b hb=>hcmp h11 (by omega) a b hq hb
    by_cases h13:op<=13
    ·exact valueCmpA op (by omega) a o1 o2 hq hc he2 n al ar kd m s src name v w hn hl hr hv
    ·exact valueCmpB op (by omega) a o1 o2 hq hc he2 n al ar kd m s src name v w hn hl hr hv
   ·by_cases h8:op<=8
    ·exact valueNumA op (by omega) a ha o1 o2 hq ho2 he2 n al ar kd m s src name v w hn hl hr hv
    ·exact valueNumB op (by omega) a ha o1 o2 hq ho2 he2 n al ar kd m s src name v w hn hl hr hv
theorem valueR (cols:List (Pl.Col × Pl.V))(hcl:cols.length<=1000)(hrow:Pl.okRow (cols.map (·.2)))(hty:Pl.rowOf (cols.map (·.1)) (cols.map (·.2))):∀ (t:Pl.T)(ty:Int)(v tv:Value)(w:World)(rb:Nat),Pl.Wf t->Pl.WfK t->Pl.Shp t->Pl.tc (cols.map (·.1)) t=.ok ty->RTree w rb t tv->RowsW w w.heap.size 6 rcC cols v->VaC (Pl.ev (cols.map (·.1)) (cols.map (·.2)) t) v tv w
 | .nil,ty,v,tv,w,rb,hw,_,_,_,_,_=>absurd hw (by simp [Pl.Wf])
 | .node ta tb p l r,ty,v,tv,w,rb,hw,hk,hs,hc,ht,hv=>by
  intro W hb
  replace ht:=ht.below hb
  replace hv:=hv.below hb
  obtain ⟨h18,hor,hw6,hw2⟩:=hw
  obtain ⟨_,hkl,hkr⟩:=hk
  obtain ⟨hs5,hsl,hsr⟩:=hs
  obtain ⟨n,vl,vr,rfl,hn,hl,hr⟩:=ht.node_
  have hsl':∃ a l c,v=.slice a l c:=by obtain ⟨a,c,rfl⟩:=hv.slice;exact ⟨_,_,_,rfl⟩
  by_cases h0:p.op=0
  ·rw [h0] at hn
   refine (valueLit _ _ _ _ _ _ _ v n W hn hsl').mono fun e w' h=>?_
   unfold Pl.ev
   rw [if_pos h0]
   exact h
  ·by_cases h1:p.op=1
   ·rw [h1] at hn
    unfold Pl.tc at hc
    rw [if_neg h0,if_pos h1] at hc
    cases hca:Pl.colAt (cols.map (·.1)) p.src p.name with
    | none=>rw [hca] at hc;cases hc
    | some i =>
     refine (valueName cols hcl _ _ _ _ _ _ _ v n W hn hv i hca).mono fun e w' h=>?_
     unfold Pl.ev Pl.idx
     rw [if_neg h0,if_pos h1,hca]
     exact h
   ·have hwl:=hw2 (by omega)
    obtain ⟨al,rfl⟩:=hl.ptr hwl
    by_cases h5:p.op<=5
    ·obtain ⟨a,hca,_⟩:=tc_one (by omega) h5 hc
     have hL:=valueR cols hcl hrow hty l a v _ W rb hwl hkl hsl hca hl hv
     refine (valueOne p.op (by omega) h5 _ (fun x hx=>Pl.ev_ok _ hrow hkl hx) (fun e he=>by have:=ev_err he;omega) n al vr _ _ _ _ _ v W hn hL hsl').mono fun e w' h=>?_
     unfold Pl.ev
     rw [if_neg h0,if_neg h1]
     unfold Pl.one at h
     cases hq:Pl.ev (cols.map (·.1)) (cols.map (·.2)) l with
     | error e2=>rw [hq] at h;exact h
     | ok x=>rw [hq] at h;simp only at h ⊢;rw [if_pos h5];exact h
    ·have hwr:=hw6 (by omega)
     obtain ⟨ar,rfl⟩:=hr.ptr hwr
     obtain ⟨a,b,hca,hcb,hfit⟩:=tc_two h5 hc
     obtain ⟨_,f1,f2,f3⟩:=Pl.fit_ok hfit
     have hL:=valueR cols hcl hrow hty l a v _ W rb hwl hkl hsl hca hl hv
     have hR:=valueR cols hcl hrow hty r b v _ W rb hwr hkr hsr hcb hr hv
     refine (valueTwo p.op (by omega) h18 _ _ (fun x hx=>Pl.ev_ok _ hrow hkl hx) (fun e he=>by have:=ev_err he;omega) (fun x hx=>Pl.ev_ok _ hrow hkr hx) (fun e he=>by have:=ev_err he;omega)
      (fun _ _ x y hx hy m1 m2=>by
       obtain ⟨ty,t1,t2⟩:=of_both (Pl.ev_type hrow hty hwl hkl hca hx) (Pl.ev_type hrow hty hwr hkr hcb hy) f3 m1 m2
       exact Pl.ordR_order (Pl.ev_ok _ hrow hkl hx) (Pl.ev_ok _ hrow hkr hy) t1 t2)
      (fun h17=>by
       have h3:Pl.takes p.op=3:=by unfold Pl.takes;rw [if_pos (by omega)]
       rw [h3] at f1 f2
       exact ⟨fun x hx=>of_three (Pl.ev_type hrow hty hwl hkl hca hx) f1,fun y hy=>of_three (Pl.ev_type hrow hty hwr hkr hcb hy) f2⟩)
      n al ar _ _ _ _ _ v W hn hL hR hsl').mono fun e w' h=>?_
     unfold Pl.ev
     rw [if_neg h0,if_neg h1]
     unfold Pl.duo at h
     cases hq:Pl.ev (cols.map (·.1)) (cols.map (·.2)) l with
     | error e2=>rw [hq] at h;exact h
     | ok x =>
      rw [hq] at h
      simp only at h ⊢
      rw [if_neg h5]
      exact h
def RPostCh (lo:Nat)(w:World)(M:Nat->Prop)(b:Nat)(o:Pl.DB × Pl.Ans)(e:Ending)(w':World):Prop :=
 e=.returned (.tuple #[.int .i64 o.2.count,.int .i64 (o.2.err:Nat)])/\∃ M' lay',RDbStep lo w M b o.1 w' M' lay'
theorem ent_typed (vs:Array Value)(w:World):(callFunc 79 vs).run Tryz.prog w=.ok (.enter 79 vs) w:=by
 have h1:(Tryz.f79.name == "runtime.NumGoroutine")=false:=by kernel_rfl
 have h2 : Tryz.f79.body.isNone=false:=by kernel_rfl
 have h1':¬ Tryz.f79.name = "runtime.NumGoroutine":=by simpa using h1
 have h2':¬ Tryz.f79.body=none:=by intro e;rw [e] at h2;cases h2
 simp [callFunc,go_sem,Tryz.func79,h1',h2']
theorem rows_none (w:World):RowsW w w.heap.size 6 rcC [] (.slice none 0 0):=⟨none,0,rfl,fun h=>absurd rfl h⟩
theorem typedN (t:Pl.T)(hw:Pl.Wf t)(hk:Pl.WfK t)(hs:Pl.Shp t)(want:Int)(h0:0<=want/\want<=3)(tv:Value)(rb:Nat)(w:World)(ht:RTree w rb t tv) :
 Calls Tryz.prog 79 #[tv,.slice none 0 0,.int .i64 want] w fun e w'=>e=.returned (.int .i64 ((Pl.tcAs [] t want).getD 0:Nat))/\Below w.heap.size w w':=by
 have h:=typeR [] (by simp) (by simp) t (.slice none 0 0) tv w rb hw hk hs ht (rows_none w) w (Below.refl _ _)
 obtain ⟨a,rfl⟩:=ht.ptr hw
 rw [<- Pl.tyE_as]
 exact typedR [] want h0 (Pl.tc [] t) (fun a ha=>Pl.tc_rng (by simp) hk ha) (fun e he=>Pl.tc_err he) _ _ w h ⟨_,_,_,rfl⟩ ⟨_,rfl⟩
theorem valueN (t:Pl.T)(hw:Pl.Wf t)(hk:Pl.WfK t)(hs:Pl.Shp t)(ty:Int)(hc:Pl.tc [] t=.ok ty)(tv:Value)(rb:Nat)(w:World)(ht:RTree w rb t tv):VaC (Pl.ev [] [] t) (.slice none 0 0) tv w :=
 valueR [] (by simp) (fun v hv=>by cases hv) (fun i=>by left;simp [Pl.nul]) t ty _ tv w rb hw hk hs hc ht (rows_none w)
theorem tcRow_step {ts:List Pl.T}{ws:List Int}{i:Nat}{t:Pl.T}{c:Int}(h1:ts[i]?=some t)(h2:ws[i]?=some c):Pl.tcRow (ts.drop i) (ws.drop i)=match Pl.tcAs [] t c with
 | some e=>some e
 | none=>Pl.tcRow (ts.drop (i+1)) (ws.drop (i+1)):=by
 have hi:=getElem?_lt h1
 have hj:=getElem?_lt h2
 rw [List.drop_eq_getElem_cons hi,List.drop_eq_getElem_cons hj]
 rw [List.getElem?_eq_getElem hi] at h1
 rw [List.getElem?_eq_getElem hj] at h2
 cases h1
 cases h2
 rfl
theorem insertR (lo:Nat)(s:Pl.St)(hs:Pl.okSt s)(hk:s.kind=105)(ts:List (Pl.T × Value))(hts:ts.map (·.1)=s.items.map (·.tree))(hsh:∀ p ∈ ts,Pl.Shp p.1)(n:Nat)(tv:Value)(u0 u3 u4 u5 u6 u7 u8 u9:Value)(w:World)(M:Nat->Prop)(b:Nat)(lay:List Lay)(D:Pl.DB)(h:RDbW w M b lay D)(hlo:lo<=w.heap.size)
 (hn:w.heap[n]?=some (.cells #[u0,.string ⟨s.table.toArray⟩,tv,u3,u4,u5,u6,u7,u8,u9] 111)) (ht:ItsR w w.heap.size ts tv) (rb:Nat) (htr:∀ p ∈ ts,RTree w rb p.1 p.2) :
 Calls Tryz.prog 49 #[.pointer (some ⟨b,0,none⟩),.pointer (some ⟨n,0,none⟩)] w (RPostCh lo w M b (Pl.doInsert D s)):=by
 have HS:=Z hs
 have hnz:=lB hn
 have n1:=bC hn 1
 have n2:=bC hn 2
 simp at n1 n2
 have HF:=Z (findR s.table w M b lay D h)
 have HN:=Z hn
 have HT:=Z ht
 have HTr:=Z htr
 have HX:=Z h
 have HTs:=Z hts
 have hlen:ts.length<=1000:=by have:=congrArg List.length hts;simp at this;have:=hs.len;omega
 have HOk:Hid (∀ p ∈ ts,Pl.okT p.1/\Pl.Shp p.1):=fun p hp=>by
  have:p.1 ∈ s.items.map (·.tree):=by rw [<- hts];exact List.mem_map_of_mem hp
  obtain ⟨it,h1,h2⟩:=List.mem_map.1 this
  rw [<- h2];exact ⟨hs.items (by omega) it h1,by rw [h2];exact hsh p hp⟩
 have HLen:=Z (show ts.length=s.items.length by have:=congrArg List.length hts;simpa using this)
 generalize hD2:Pl.doInsert D s=out
 have HD2:=Z hD2
 have HNo:Hid (∀ er w',out=(D,Pl.no er)->Below w.heap.size w w'->RPostCh lo w M b out (.returned (.tuple #[.int .i64 0,.int .i64 (er:Nat)])) w'):=fun er w' ho hb=>by
  rw [ho];exact ⟨rfl,M,lay,RDbStep.below h hb⟩
 have HYes:Hid (∀ w' M' lay' D' (c:Int),out=(D',⟨[],c,0⟩)->RDbStep lo w M b D' w' M' lay'->RPostCh lo w M b out (.returned (.tuple #[.int .i64 c,.int .i64 0])) w'):=fun w' M' lay' D' c ho hst=>by
  rw [ho];exact ⟨rfl,M',lay',hst⟩
 generalize RPostCh lo w M b out=Post at *
 obtain ⟨ia,ic,rfl,_⟩:=ht
 clear hs hn h hts hD2 htr hsh
 cases hta:Pl.tabAt D s.table with
 | none =>
  rw [hta] at HF
  have HE:=Z (HNo.out 2 w (by rw [<- HD2.out];exact doInsert_noTab hta) (Below.refl _ _))
  simp only [tabPtr] at HF
  clear hta
  go_enter Tryz.func49,Tryz.ntmps49
  go_wp2_with fail
  refine (U HF).mono ?_
  rintro e w1 ⟨rfl,rfl⟩
  go_wp2_with fail
  exact HE.out
 | some i =>
  obtain ⟨l,hl,htD,hptr⟩:=HX.out.tab_of (Pl.tabAt_lt hta)
  rw [hta,hptr] at HF
  have HL:=Z hl
  have HTD:=Z htD
  have hT:=HX.out.tabs i l _ hl htD
  have hokT:=HX.out.ok.2 _ (Pl.tabD_mem (Pl.tabAt_lt hta))
  have HTA:=Z hta
  obtain ⟨cv,hlb,⟨cs0,hcv,hfl⟩,_⟩:=hT.blk
  have l1:=bC hlb 1
  have l2:=bC hlb 2
  simp at l1 l2
  have hlz:=lB hlb
  have hcl:=hokT.ncols
  have HTb:=Z hT
  have HLb:=Z hlb
  have HCv:=Z hcv
  have HFl:=Z hfl
  have HOT:=Z hokT
  obtain ⟨ca,cc,rfl,hcap⟩:=own_cap hcv
  clear hl htD hptr hT hta hlb hcv hfl hokT
  generalize hcs:(Pl.tabD D i).cols=cs at *
  have HCs:=Z hcs
  clear hcs
  go_enter Tryz.func49,Tryz.ntmps49
  go_wp2_with fail
  refine (U HF).mono ?_
  rintro e w1 ⟨rfl,rfl⟩
  go_upto_region 4 with fail
  go_cut [29] (fun s29 wx=>∃ q:Nat,s29=.bool (((cs.length:Nat):Int) != ((ts.length:Nat):Int))/\wx=w1.drewN q)
  case first =>
   go_quiet (fail)
   all_goals go_wp2_with fail
   all_goals go_meet
   all_goals exact ⟨_,rfl,rfl⟩
  case rest =>
   obtain ⟨q,rfl,rfl⟩:=hcut
   have hb2:Below w1.heap.size w1 (w1.drewN q):=below_drewN (Below.refl _ _) q
   generalize w1.drewN q=w2 at *
   by_cases hll:ts.length=cs.length
   ·have gl:(((cs.length:Nat):Int) != ((ts.length:Nat):Int))=false:=by simp;omega
    rw [gl]
    have HLL:=Z hll
    have HB2:=Z hb2
    have HW0:Hid (rowWhy (ts.map (·.1)) cs=Pl.tcRow (ts.map (·.1)) (cs.map (·.2))):=by
     unfold Hid rowWhy
     rw [if_neg (by simp [hll])]
    clear gl hll hb2
    go_wp2_with fail
    go_loopw [7] (fun a wr=>∃ k:Nat,k<=ts.length/\a=.int .i64 k/\Hid (Below w1.heap.size w1 wr/\Pl.tcRow (ts.map (·.1)) (cs.map (·.2))=Pl.tcRow ((ts.map (·.1)).drop k) ((cs.map (·.2)).drop k))) (fun a _=>ts.length - (intOf a).toNat)
    case atStart=>exact ⟨0,Nat.zero_le _,rfl,HB2.out,by simp⟩
    case round =>
     obtain ⟨k,hk',rfl,HI⟩:=hrel
     have hbI:=HI.out.1
     have hzI:=hbI.size
     have hnI:=bB hbI hnz HN.out
     have i1:=bC hnI 1
     have i2:=bC hnI 2
     simp at i1 i2
     have hnzI:=lB hnI
     have hlI:=bB hbI hlz HLb.out
     have j1:=bC hlI 1
     have j2:=bC hlI 2
     simp at j1 j2
     have hlzI:=lB hlI
     by_cases hlt:k<ts.length
     ·have hpk:ts[k]?=some ts[k]:=List.getElem?_eq_getElem hlt
      have hck:cs[k]?=some (cs[k]'(by rw [<- HLL.out];exact hlt)):=List.getElem?_eq_getElem _
      have hmem:=List.getElem_mem hlt
      have hcm:cs[k]'(by rw [<- HLL.out];exact hlt) ∈ cs:=List.getElem_mem _
      generalize cs[k]'(by rw [<- HLL.out];exact hlt)=c at *
      generalize ts[k]=p at *
      obtain ⟨pt,pv⟩:=p
      obtain ⟨g,_,he,_,hgz0,e0⟩:=own_cell (own_below hbI HCv.out) (HFl.out k c hck).2
      cases he
      obtain ⟨_,_,he2,h2⟩:=HT.out.below hbI
      cases he2
      obtain ⟨gi,rfl,hgi,h3⟩:=h2 (by rintro rfl;simp at hlt)
      have e1:=h3 k _ hpk
      simp only at e1
      obtain ⟨hok,hshp⟩:=HOk.out _ hmem
      simp only at hok hshp
      obtain ⟨pa,rfl⟩:=(HTr.out _ hmem).ptr hok.1
      have hct:0<=c.2/\c.2<=3:=by
       have:=(HOT.out.cols c (by rw [HCs.out];exact hcm)).1
       omega
      have HStep:=Z (tcRow_step (i:=k) (ts:=ts.map (·.1)) (ws:=cs.map (·.2)) (by rw [List.getElem?_map,hpk];rfl) (by rw [List.getElem?_map,hck];rfl))
      have HCl0:=Z (fun W (hb:Below wr.heap.size wr W)=>typedN pt hok.1 hok.2.1 hshp c.2 hct (.pointer (some pa)) rb W (((HTr.out _ hmem).below hbI).below hb))
      have hki:((k:Nat):Int)<((ts.length:Nat):Int):=by omega
      have hkc:((k:Nat):Int)<((cs.length:Nat):Int):=by have:=HLL.out;omega
      have HHk:=Z hok
      clear hbI hnI hlI h2 h3 hok hshp hmem hcm hct
      go_upto_region 9 with fail
      generalize hoe:Pl.tcAs [] pt c.2=oe at *
      have HOe:=Z hoe
      clear hoe
      go_cut [8] from 30 to 58 (fun s8 wx=>s8=.int .i64 ((oe.getD 0:Nat):Int)/\Hid (Below wr.heap.size wr wx))
      case first =>
       have HCl:Hid (Calls Tryz.prog 79 #[.pointer (some pa),.slice none 0 0,.int .i64 c.2] wr.drew fun e w'=>∃ v,e=.returned v/\(v=.int .i64 ((oe.getD 0:Nat):Int)/\Below wr.heap.size wr w')):=by
        refine (HCl0.out wr.drew ((Below.refl _ _).drew)).mono ?_
        rintro e w' ⟨rfl,hb⟩
        exact ⟨_,rfl,rfl,(Below.refl _ _).drew.trans hb⟩
       go_region_law (refine step_call3 rfl 79 (.tmp 46) (.const (.slice none 0 0)) (.tmp 54) _ rfl (.pointer (some pa)) (.slice none 0 0) (.int .i64 c.2) (ent_typed _ _) (by simp [Act.eval,Act.put]) (by simp [Act.eval,Act.put]) (by simp [Act.eval,Act.put]) _ (U HCl) ?_
                      rintro v8 w8 ⟨rfl,hp8⟩
                      have HP8:=Z hp8
                      clear hp8)
       all_goals go_wp2_with fail
       all_goals go_meet
       all_goals exact ⟨rfl,HP8.out⟩
      case rest =>
       obtain ⟨rfl,HB9⟩:=hcut
       have HBe:=Z (HI.out.1.trans (HB9.out.mono hzI))
       cases hoe2:oe with
       | some er =>
        have her0:er=2\/er=3:=tcAs_err (HOe.out.trans hoe2)
        have her:(((er:Nat):Int) != 0)=true:=by simp;omega
        have HE:=Z (HNo.out er wc (by
         rw [<- HD2.out]
         refine doInsert_why HTA.out ?_
         rw [<- HTs.out,HCs.out,HW0.out,HI.out.2,HStep.out,hoe2]) HBe.out)
        clear hoe2 her0
        simp only [Option.getD_some]
        go_wp2_with fail
        exact HE.out
       | none =>
        have HI2:Hid (Pl.tcRow (ts.map (·.1)) (cs.map (·.2))=Pl.tcRow ((ts.map (·.1)).drop (k+1)) ((cs.map (·.2)).drop (k+1))):=by
         unfold Hid
         rw [HI.out.2,HStep.out,hoe2]
        clear hoe2
        simp only [Option.getD_none]
        go_wp2_with fail
        go_roundw
        case rel=>exact ⟨k+1,by omega,by go_num,HBe.out,HI2.out⟩
        case measure=>simp [intOf];omega
     ·obtain rfl:k=ts.length:=by omega
      have hwn:rowWhy (ts.map (·.1)) cs=none:=by
       rw [HW0.out,HI.out.2,List.drop_of_length_le (by simp),List.drop_of_length_le (by simp [HLL.out])]
       rfl
      obtain ⟨e1,e2,e3⟩:=doInsert_ev HTA.out (by rw [<- HTs.out,HCs.out];exact hwn)
      have HR:=Z (valuesR [] [] ts (.slice ia ts.length ic) (.slice none 0 0) wr (HT.out.below hbI) (fun p hp=>by
       obtain ⟨hok,hshp⟩:=HOk.out p hp
       have hm:p.1 ∈ s.items.map (·.tree):=by rw [<- HTs.out];exact List.mem_map_of_mem hp
       obtain ⟨ty,hty⟩:=tcRow_fine (by simpa using e1) e2 _ hm
       have htp:=(HTr.out p hp).below hbI
       obtain ⟨pa,hpa⟩:=htp.ptr hok.1
       exact ⟨valueN p.1 hok.1 hok.2.1 hshp ty hty p.2 rb wr htp,⟨_,hpa⟩⟩) ⟨_,_,_,rfl⟩ hlen)
      rw [HTs.out] at HR
      have HE3:=Z e3
      have HBI:=Z hbI
      clear hbI hnI hlI hwn e1 e2 e3
      go_wp2_with fail
      refine (U HR).mono ?_
      rintro e w3 ⟨hb3,hp3⟩
      have HB3:=Z (HBI.out.trans (hb3.mono hzI))
      have hz3:=hb3.size
      rcases hp3 with ⟨er,hev,rfl⟩|⟨row,u,hev,rfl,hu⟩
      ·have her:((er:Int) != 0)=true:=by have:=evAll_err hev;simp;omega
       have HE:=Z (HNo.out er w3 (by rw [<- HD2.out,HE3.out,hev]) HB3.out)
       clear hev hb3
       go_wp2_with fail
       exact HE.out
      ·obtain ⟨ra,rc,hrv,hcap⟩:=own_cap HTb.out.rows
       have hlb3:=bB HB3.out hlz HLb.out
       have m2:=bC hlb3 2
       simp at m2
       rw [hrv] at m2
       have hlz3:=lB hlb3
       obtain ⟨ua,un,uc,rfl⟩:=own_slice hu
       by_cases h25:(Pl.tabD D i).rows.length=25
       ·have HE:=Z (HNo.out 6 w3 (by rw [<- HD2.out,HE3.out,hev];simp only;rw [if_pos h25]) HB3.out)
        have g25:((((Pl.tabD D i).rows.length:Nat):Int) == 25)=true:=by simp;omega
        clear hev hb3 h25
        go_wp2_with fail
        exact HE.out
       ·have g25:((((Pl.tabD D i).rows.length:Nat):Int) == 25)=false:=by simp;omega
        have hr25:=HOT.out.nrows
        have hown3:=own_below HB3.out HTb.out.rows
        rw [hrv] at hown3
        obtain ⟨i0,hi,hz0,hz1,hz2'⟩:=info_parts Tryz.infoRow
        have HOkD:Hid (Pl.okDB (Pl.setRows D i ((Pl.tabD D i).rows++[row]))):=by
         unfold Hid
         have:=Pl.doSt_ok HS.out HX.out.ok
         unfold Pl.doSt at this
         rw [if_neg (by omega),if_pos hk,HE3.out,hev] at this
         simp only at this
         rw [if_neg h25] at this
         exact this
        have HOut:Hid (out=(Pl.setRows D i ((Pl.tabD D i).rows++[row]),⟨[],1,0⟩)):=by
         unfold Hid;rw [<- HD2.out,HE3.out,hev];simp only;rw [if_neg h25]
        have HU:=Z (own_base hu hzI)
        clear hev hb3 h25 hu
        go_wp2_with (at_builtin;refine wpList_append_own_at _ rfl (.tmp 80) (.tmp 82) 29 rfl 0 32 i0 _ 1 24 Tryz.underlying29 hi hz0 hz1 hz2' rfl (by decide) _ _ _ rfl (hown3.alloc _) ⟨w3.heap.size,0,none⟩ 1 1 [.slice ua un uc] rfl rfl ?c1 ?c2 ?c3 ?c4 ?c5 ?_)
        case c1=>exact news_at w3 [.slice ua un uc] 32
        case c2=>intro x hx;simp at hx;subst hx;rfl
        case c3=>unfold maxLen;omega
        case c4=>omega
        case c5=>simp
        intro v' w4 hown4 hg4 hnil ho4
        rw [<- hrv] at hg4 ho4
        obtain ⟨⟨cv4,hlb4⟩,hst⟩:=rtab_push HX.out HL.out HTD.out (w3:=w3.alloc (.cells #[.slice ua un uc] 32)) (HB3.out.alloc (by omega) _) (HU.out.alloc _) hown4 hg4 (by simpa using ho4) HOkD.out
        have HSt:=Z hst
        have q2:=bC hlb4 2
        have qf:=bF hlb4 2
        simp at q2
        rw [hrv] at q2
        have hlz4:=lB hlb4
        obtain ⟨xa,xn,xc,rfl⟩:=own_slice hown4
        clear hown3 hown4 hg4 hnil ho4 hst hlb4 hlb3
        go_wp2_with fail
        exact HYes.out _ _ _ _ 1 HOut.out (HSt.out.low hlo)
   ·have gl:(((cs.length:Nat):Int) != ((ts.length:Nat):Int))=true:=by simp;omega
    rw [gl]
    have HE:=Z (HNo.out 3 w2 (by
     rw [<- HD2.out]
     refine doInsert_why HTA.out ?_
     unfold rowWhy
     rw [<- HTs.out,HCs.out,if_pos (by simpa using hll)]) hb2)
    clear gl hll hb2
    go_wp2_with fail
    exact HE.out
end Go.Proofs.YtojdpjpldokjmaaGreatDoor
