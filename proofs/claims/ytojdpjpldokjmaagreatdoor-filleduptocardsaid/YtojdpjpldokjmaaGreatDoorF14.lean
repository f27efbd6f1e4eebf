/- The code's Save: what the library does; a number, a value, a column as text. -/
import Derived.Test.YtojdpjpldokjmaaGreatDoorF05
import Derived.Test.YtojdpjpldokjmaaGreatDoorF07
import Derived.Lib.Builder
import Derived.Lib.LaidTab
import Derived.Lib.ItoaNum
import Derived.Test.YtojdpjpldokjmaaGreatDoorF08
set_option maxHeartbeats 60000000
set_option maxRecDepth 100000
namespace Go.Proofs.YtojdpjpldokjmaaGreatDoor
open Go.RowKit Go.Deep
set_option linter.unusedSimpArgs false
set_option linter.unusedVariables false
def PowAt (w:World):Prop:=Lib.TabIs Tryz.prog w "internal/strconv.uint64pow10" .u64 Lib.pow10Tab
def MaxAt (w:World):Prop:=∃ m,w.cell? ⟨2,0,none⟩=some (.int .i64 m)
def NamesAt (w:World):Prop:=∀ k:Nat,1<=k->k<=3->w.cell? ⟨0,k,none⟩=some (.string ⟨(Pl.typeText (k:Nat)).toArray⟩)
structure SaveLib:Prop where
 itoa:∀ (n:Int) (w:World),-9223372036854775808<=n->n<=9223372036854775807->PowAt w->Calls Tryz.prog 118 #[.int .i64 n] w fun e w'=>e=.returned (.string ⟨(Lib.itoa n).toArray⟩)/\Below w.heap.size w w'
 repl:∀ (s:List UInt8) (w:World),s.length<=1000->MaxAt w->Calls Tryz.prog 73 #[.string ⟨s.toArray⟩,.string ⟨#[39]⟩,.string ⟨#[39,39]⟩] w fun e w'=>e=.returned (.string ⟨(Pl.quote s).toArray⟩)/\Below w.heap.size w w'
 join:∀ (xs:List (List UInt8)) (v:Value) (B:Nat) (w:World),w.ownsRow B 9 1 v xs.length (xs.map fun x=>Value.string ⟨x.toArray⟩)->xs.length<=1000->(Pl.sepJoin [44,32] xs).length<=1000000->Calls Tryz.prog 71 #[v,.string ⟨#[44,32]⟩] w fun e w'=>e=.returned (.string ⟨(Pl.sepJoin [44,32] xs).toArray⟩)/\Below w.heap.size w w'
 write:∀ (B b:Nat) (l s:List UInt8) (w:World),Lib.IsBuilder 86 5 B b (Lib.byteCells l) w->l.length+s.length<=100000000->B<=w.heap.size->Calls Tryz.prog 37 #[.pointer (some ⟨b,0,none⟩),.string ⟨s.toArray⟩] w fun e w'=>∃ v,e=.returned v/\Lib.IsBuilder 86 5 B b (Lib.byteCells (l++s)) w'/\Below B w w'
 str:∀ (B b:Nat) (l:List UInt8) (w:World),Lib.IsBuilder 86 5 B b (Lib.byteCells l) w->B<=w.heap.size->Calls Tryz.prog 42 #[.pointer (some ⟨b,0,none⟩)] w fun e w'=>e=.returned (.string ⟨l.toArray⟩)/\Below B w w'
theorem cat2' (a b:List UInt8):({ data:=a.toArray }:ByteArray)++{ data:=b.toArray }=⟨(a++b).toArray⟩:=by rw [ByteArray.mk_append_mk]
theorem truthTextM (b:Bool)(w:World):Calls Tryz.prog 74 #[.bool b] w fun e w'=>e=.returned (.string ⟨(if b then ([84,82,85,69]:List UInt8) else [70,65,76,83,69]).toArray⟩)/\w'=w:=by
 cases b
 all_goals
  go_enter Tryz.func74,Tryz.ntmps74
  go_wp2_with fail
  go_ret
  exact ⟨rfl,rfl⟩
theorem dec_digits:∀ (f n:Nat)(acc:List UInt8),n<10 ^ f->Pl.decGo f n acc=if f=0 then acc else Lib.decDigits n++acc
 | 0,n,acc,h=>by simp [Pl.decGo]
 | f+1,n,acc,h=>by
  rw [if_neg (by omega),Pl.decGo,Lib.decDigits]
  by_cases h1:n<10
  ·rw [if_pos h1,dif_pos h1];rfl
  ·rw [if_neg h1,dif_neg h1]
   have h2:n / 10<10 ^ f:=by
    rw [Nat.pow_succ] at h
    exact Nat.div_lt_of_lt_mul (by omega)
   rw [dec_digits f (n / 10) _ h2]
   by_cases h0:f=0
   ·subst h0;simp at h2;omega
   ·rw [if_neg h0];simp
theorem itoa_num {n:Int}(h0 : -9223372036854775808<n)(h1:n<=9223372036854775807):Lib.itoa n=Pl.numText n:=by
 have e:∀ k:Nat,k<=9223372036854775807->Lib.decDigits k=Pl.dec k:=fun k hk=>by
  unfold Pl.dec
  rw [dec_digits 20 k [] (Nat.lt_of_le_of_lt hk (by decide))]
  simp
 have hl:n≠-9223372036854775808:=by omega
 unfold Lib.itoa Pl.numText
 rw [if_neg hl]
 by_cases hn:n<0
 ·rw [if_pos hn,if_pos hn,<- e _ (by omega)]
  congr 2
  omega
 ·rw [if_neg hn,if_neg hn,<- e _ (by omega)]
theorem num_least:Pl.numText (-9223372036854775808)=Lib.itoa (-9223372036854775807)++[32,45,32,49]:=by
 rw [itoa_num (by decide) (by decide)];kernel_rfl
theorem numberTextM (X:SaveLib)(n:Int)(w:World)(h0 : -9223372036854775808<=n)(h1:n<=9223372036854775807)(hp:PowAt w):Calls Tryz.prog 72 #[.int .i64 n] w fun e w'=>e=.returned (.string ⟨(Pl.numText n).toArray⟩)/\Below w.heap.size w w':=by
 by_cases hl:n=-9223372036854775808
 ·subst hl
  have HC:=Z (X.itoa (-9223372036854775807) w (by omega) (by omega) hp)
  have HV:Hid ((Pl.numText (-9223372036854775808))=Lib.itoa (-9223372036854775807)++[32,45,32,49]):=num_least
  have hxl:(Lib.itoa (-9223372036854775807)).length<=20:=by
   rw [itoa_num (by decide) (by decide),show Pl.numText (-9223372036854775807)=[45,57,50,50,51,51,55,50,48,51,54,56,53,52,55,55,53,56,48,55] from by kernel_rfl]
   decide
  generalize Lib.itoa (-9223372036854775807)=x at *
  clear X hp h0 h1
  go_enter Tryz.func72,Tryz.ntmps72
  go_wp2_with fail
  refine (U HC).mono ?_
  rintro e w1 ⟨rfl,hb⟩
  have HB:=Z hb
  clear hb HC
  go_wp2_with fail
  go_ret
  exact ⟨ret_str (by rw [HV.out];exact cat2' x [32,45,32,49]),HB.out⟩
 ·have HC:=Z (X.itoa n w h0 h1 hp)
  have HV:=Z (itoa_num (n:=n) (by omega) h1)
  have g:(n == -9223372036854775808)=false:=by simp [hl]
  clear X hp h0 h1 hl
  go_enter Tryz.func72,Tryz.ntmps72
  go_wp2_with fail
  refine (U HC).mono ?_
  rintro e w1 ⟨rfl,hb⟩
  have HB:=Z hb
  clear hb HC
  go_wp2_with fail
  go_ret
  exact ⟨ret_str (by rw [HV.out]),HB.out⟩
structure SaveG (w:World):Prop where
 pow:PowAt w
 max:MaxAt w
 names:NamesAt w
theorem pow_glob : Tryz.prog.globalNamed "internal/strconv.uint64pow10"=some 5:=by kernel_rfl
theorem PowAt.keep {w w':World}(h:PowAt w)(hk:w'.heap[5]?=w.heap[5]?):PowAt w':=by
 unfold PowAt Lib.TabIs World.var? at *
 rw [pow_glob] at *
 simp only [Option.bind_some] at *
 rw [hk]
 exact h
theorem PowAt.lt {w:World}(h:PowAt w) : 5<w.heap.size:=by
 unfold PowAt Lib.TabIs World.var? at h
 rw [pow_glob] at h
 rcases Nat.lt_or_ge 5 w.heap.size with h1|h1
 ·exact h1
 ·rw [Option.bind_some,Array.getElem?_eq_none h1] at h
  cases h
theorem SaveG.keep {w w':World}(h:SaveG w)(hk:∀ k,k = 5\/k = 2\/k = 0->w'.heap[k]?=w.heap[k]?):SaveG w' :=
 ⟨h.pow.keep (hk _ (.inl rfl)),let ⟨m,hm⟩:=h.max;⟨m,(World.cell?_of_block (hk _ (.inr (.inl rfl)))).trans hm⟩,fun k h1 h2=>(World.cell?_of_block (hk _ (.inr (.inr rfl)))).trans (h.names k h1 h2)⟩
theorem SaveG.lts {w:World}(h:SaveG w):∀ k,k = 5\/k = 2\/k = 0->k<w.heap.size:=by
 rintro k (rfl|rfl|rfl)
 ·exact h.pow.lt
 ·obtain ⟨m,hm⟩:=h.max
  exact lt_of_cell hm
 ·exact lt_of_cell (h.names 1 (by omega) (by omega))
theorem SaveG.below {w w':World}(h:SaveG w)(hb:Below w.heap.size w w'):SaveG w':=h.keep (fun k hk=>hb.block k (h.lts k hk))
theorem quote_len:∀ s:List UInt8,(Pl.quote s).length<=2*s.length
 | []=>by simp [Pl.quote]
 | c :: r=>by
  have:=quote_len r
  unfold Pl.quote
  split <;> simp <;> omega
theorem valueTextM (X:SaveLib)(v:Pl.V)(w:World)(hg:SaveG w)(hv:Pl.okV v):Calls Tryz.prog 41 #[vV v] w fun e w'=>e=.returned (.string ⟨(Pl.valText v).toArray⟩)/\Below w.heap.size w w':=by
 have hb0:Below w.heap.size w (w.alloc (.cells #[.int .i64 v.kind,.int .i64 v.n,.string ⟨v.s.toArray⟩] 34)):=(Below.refl _ _).alloc (Nat.le_refl _) _
 have hG:=hg.below hb0
 have HB0:=Z hb0
 obtain ⟨k,n,s⟩:=v
 rcases hv with ⟨h1,h2,h3⟩|⟨h1,h3,h4,h5⟩|⟨h1,h2,h3⟩|⟨h1,h2,h3⟩
 ·simp only at h1 h2 h3
  subst h1 h2 h3
  clear hG hb0
  unfold vV
  go_enter Tryz.func41,Tryz.ntmps41
  go_wp2_with fail
  go_ret
  exact ⟨rfl,HB0.out⟩
 ·simp only at h1 h3 h4 h5
  subst h1 h3
  have HC:=Z (numberTextM X n _ h4 h5 hG.pow)
  have HV:Hid (Pl.valText ⟨1,n,[]⟩=Pl.numText n):=rfl
  clear hG hb0 h4 h5
  unfold vV at *
  go_enter Tryz.func41,Tryz.ntmps41
  go_wp2_with fail
  refine (U HC).mono ?_
  rintro e w1 ⟨rfl,hb⟩
  have HB:=Z (HB0.out.trans (hb.mono HB0.out.size))
  clear hb HC
  go_wp2_with fail
  go_ret
  exact ⟨ret_str (by rw [HV.out]),HB.out⟩
 ·simp only at h1 h2 h3
  subst h1 h2
  have HC:=Z (X.repl s _ (by omega) hG.max)
  have HV:Hid (Pl.valText ⟨2,0,s⟩=39 :: (Pl.quote s++[39])):=rfl
  have hq:(Pl.quote s).length<=80:=by have:=quote_len s;omega
  generalize Pl.quote s=q at *
  clear hG hb0
  unfold vV at *
  go_enter Tryz.func41,Tryz.ntmps41
  go_wp2_with fail
  refine (U HC).mono ?_
  rintro e w1 ⟨rfl,hb⟩
  have HB:=Z (HB0.out.trans (hb.mono HB0.out.size))
  clear hb HC
  go_wp2_with fail
  go_ret
  exact ⟨ret_str (by rw [HV.out];exact (congrArg (·++_) (cat2' [39] q)).trans (cat2' (39 :: q) [39])),HB.out⟩
 ·simp only at h1 h2 h3
  subst h1 h3
  have HC:=Z (truthTextM (n == 1) (w.alloc (.cells #[.int .i64 3,.int .i64 n,.string ⟨([]:List UInt8).toArray⟩] 34)))
  have HV:Hid (Pl.valText ⟨3,n,[]⟩=if (n == 1)=true then [84,82,85,69] else [70,65,76,83,69]):=by
   rcases h2 with rfl|rfl <;> rfl
  clear hG hb0 h2
  generalize (if (n == 1)=true then ([84,82,85,69]:List UInt8) else [70,65,76,83,69])=x at *
  unfold vV at *
  go_enter Tryz.func41,Tryz.ntmps41
  go_wp2_with fail
  refine (U HC).mono ?_
  rintro e w1 ⟨rfl,rfl⟩
  go_wp2_with fail
  go_ret
  exact ⟨ret_str (by rw [HV.out]),HB0.out⟩
theorem typeText_len (k:Int):(Pl.typeText k).length<=4:=by
 unfold Pl.typeText
 split
 ·decide
 ·split <;> decide
theorem columnTextM (c:List UInt8 × Int)(w:World)(hg:SaveG w)(h1:c.1.length<=10)(h2:c.2=1\/c.2=2\/c.2=3):Calls Tryz.prog 39 #[.agg #[.string ⟨c.1.toArray⟩,.int .i64 c.2]] w fun e w'=>e=.returned (.string ⟨(Pl.colText c).toArray⟩)/\Below w.heap.size w w':=by
 obtain ⟨x,t⟩:=c
 simp only at h1 h2
 have hb0:Below w.heap.size w (w.alloc (.cells #[.string ⟨x.toArray⟩,.int .i64 t] 97)):=(Below.refl _ _).alloc (Nat.le_refl _) _
 have hG:=hg.below hb0
 have HV:Hid (Pl.colText (x,t)=x++32 :: Pl.typeText t):=rfl
 obtain ⟨k,rfl,hk1,hk3⟩:∃ k:Nat,t=(k:Int)/\1<=k/\k<=3:=⟨t.toNat,by omega,by omega,by omega⟩
 have hn:=hg.names k hk1 hk3
 have hz : 0<w.heap.size:=hg.lts _ (.inr (.inr rfl))
 have hl:=typeText_len k
 have HB0:=Z hb0
 generalize Pl.typeText (k:Nat)=y at *
 have hk4:(k:Int)<4:=by omega
 clear hg hG hb0 h2
 go_enter Tryz.func39,Tryz.ntmps39
 go_upto_region 1 with fail
 go_region
 all_goals go_wp2_with fail
 all_goals go_ret
 all_goals exact ⟨ret_str (by rw [HV.out];exact (congrArg (·++_) (cat2' x [32])).trans ((cat2' (x++[32]) y).trans (by simp))),HB0.out.drew⟩
end Go.Proofs.YtojdpjpldokjmaaGreatDoor
