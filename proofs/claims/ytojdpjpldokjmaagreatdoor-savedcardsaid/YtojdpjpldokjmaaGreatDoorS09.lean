/- The code's Save: what the library does; a number, a value, a column as text. -/
import Derived.Test.YtojdpjpldokjmaaGreatDoorS08
import Derived.Test.YtojdpjpldokjmaaGreatDoorS04
import Derived.Lib.Builder
import Derived.Lib.LaidTab
import Derived.Lib.ItoaNum
import Derived.Test.YtojdpjpldokjmaaGreatDoorS06
import Derived.Test.YtojdpjpldokjmaaGreatDoorS05
set_option maxHeartbeats 60000000
set_option maxRecDepth 100000
namespace Go.Proofs.YtojdpjpldokjmaaGreatDoor
open Go.RowKit Go.Deep
set_option linter.unusedSimpArgs false
set_option linter.unusedVariables false
def PowAt (w:World):Prop := Lib.TabIs Tryz.prog w "internal/strconv.uint64pow10" .u64 Lib.pow10Tab
def MaxAt (w:World):Prop := ∃ m,w.cell? ⟨2,0,none⟩ = some (.int .i64 m)
def NamesAt (w:World):Prop := ∀ k:Nat,1 <= k -> k <= 3 -> w.cell? ⟨0,k,none⟩ = some (.string ⟨(Pl.typeText (k:Nat)).toArray⟩)
structure SaveLib:Prop where
 itoa:∀ (n:Int) (w:World),-9223372036854775808 <= n -> n <= 9223372036854775807 -> PowAt w -> Calls Tryz.prog 118 #[.int .i64 n] w fun e w' => e = .returned (.string ⟨(Lib.itoa n).toArray⟩) /\ Below w.heap.size w w'
 repl:∀ (s:List UInt8) (w:World),s.length <= 1000 -> MaxAt w -> Calls Tryz.prog 73 #[.string ⟨s.toArray⟩,.string ⟨#[39]⟩,.string ⟨#[39,39]⟩] w fun e w' => e = .returned (.string ⟨(Pl.quote s).toArray⟩) /\ Below w.heap.size w w'
 join:∀ (xs:List (List UInt8)) (v:Value) (B:Nat) (w:World),w.ownsRow B 9 1 v xs.length (xs.map fun x=>Value.string ⟨x.toArray⟩) -> xs.length <= 1000 -> (Pl.sepJoin [44,32] xs).length <= 1000000 -> Calls Tryz.prog 71 #[v,.string ⟨#[44,32]⟩] w fun e w' => e = .returned (.string ⟨(Pl.sepJoin [44,32] xs).toArray⟩) /\ Below w.heap.size w w'
 write:∀ (B b:Nat) (l s:List UInt8) (w:World),Lib.IsBuilder 86 5 B b (Lib.byteCells l) w -> l.length + s.length <= 100000000 -> B <= w.heap.size -> Calls Tryz.prog 37 #[.pointer (some ⟨b,0,none⟩),.string ⟨s.toArray⟩] w fun e w' => ∃ v,e = .returned v /\ Lib.IsBuilder 86 5 B b (Lib.byteCells (l ++ s)) w' /\ Below B w w'
 str:∀ (B b:Nat) (l:List UInt8) (w:World),Lib.IsBuilder 86 5 B b (Lib.byteCells l) w -> B <= w.heap.size -> Calls Tryz.prog 42 #[.pointer (some ⟨b,0,none⟩)] w fun e w' => e = .returned (.string ⟨l.toArray⟩) /\ Below B w w'
theorem cat2' (a b:List UInt8):({ data := a.toArray }:ByteArray) ++ { data := b.toArray } = ⟨(a ++ b).toArray⟩ := by rw [ByteArray.mk_append_mk]
theorem truthTextM (b:Bool) (w:World):Calls Tryz.prog 74 #[.bool b] w fun e w' => e = .returned (.string ⟨(if b then ([84,82,85,69]:List UInt8) else [70,65,76,83,69]).toArray⟩) /\ w' = w := by
 cases b
 all_goals
   go_enter Tryz.func74,Tryz.ntmps74
   go_wp2_with fail
   go_ret
   exact ⟨rfl,rfl⟩
theorem dec_digits:∀ (f n:Nat) (acc:List UInt8),n < 10 ^ f -> Pl.decGo f n acc = if f = 0 then acc else Lib.decDigits n ++ acc
 | 0,n,acc,h=>by simp [Pl.decGo]
 | f + 1,n,acc,h=>by
   rw [if_neg (by omega),Pl.decGo,Lib.decDigits]
   by_cases h1:n < 10
   · rw [if_pos h1,dif_pos h1]; rfl
   · rw [if_neg h1,dif_neg h1]
     have h2:n / 10 < 10 ^ f := by
       rw [Nat.pow_succ] at h
       exact Nat.div_lt_of_lt_mul (by omega)
     rw [dec_digits f (n / 10) _ h2]
     by_cases h0:f = 0
     · subst h0; simp at h2; omega
     · rw [if_neg h0]; simp
theorem itoa_num {n:Int} (h0 : -9223372036854775808 < n) (h1:n <= 9223372036854775807):Lib.itoa n = Pl.numText n := by
 have e:∀ k:Nat,k <= 9223372036854775807 -> Lib.decDigits k = Pl.dec k := fun k hk=>by
   unfold Pl.dec
   rw [dec_digits 20 k [] (Nat.lt_of_le_of_lt hk (by decide))]
   simp
 have hl:n ≠ -9223372036854775808 := by omega
 unfold Lib.itoa Pl.numText
 rw [if_neg hl]
 by_cases hn:n < 0
 · rw [if_pos hn,if_pos hn,<- e _ (by omega)]
   congr 2
   omega
 · rw [if_neg hn,if_neg hn,<- e _ (by omega)]
theorem num_least:Pl.numText (-9223372036854775808) = Lib.itoa (-9223372036854775807) ++ [32,45,32,49] := by
 rw [itoa_num (by decide) (by decide)]; kernel_rfl
theorem numberTextM (X:SaveLib) (n:Int) (w:World) (h0 : -9223372036854775808 <= n) (h1:n <= 9223372036854775807) (hp:PowAt w):Calls Tryz.prog 72 #[.int .i64 n] w fun e w' => e = .returned (.string ⟨(Pl.numText n).toArray⟩) /\ Below w.heap.size w w' := by
 by_cases hl:n = -9223372036854775808
 · subst hl
   have HC := hide (X.itoa (-9223372036854775807) w (by omega) (by omega) hp)
   have HV:Hid ((Pl.numText (-9223372036854775808)) = Lib.itoa (-9223372036854775807) ++ [32,45,32,49]) := num_least
   have hxl:(Lib.itoa (-9223372036854775807)).length <= 20 := by
     rw [itoa_num (by decide) (by decide),show Pl.numText (-9223372036854775807) = [45,57,50,50,51,51,55,50,48,51,54,56,53,52,55,55,53,56,48,55] from by kernel_rfl]
     decide
   generalize Lib.itoa (-9223372036854775807) = x at *
   clear X hp h0 h1
   go_enter Tryz.func72,Tryz.ntmps72
   go_wp2_with fail
   refine (unhide HC).mono ?_
   rintro e w1 ⟨rfl,hb⟩
   have HB := hide hb
   clear hb HC
   go_wp2_with fail
   go_ret
   exact ⟨ret_str (by rw [HV.out]; exact cat2' x [32,45,32,49]),HB.out⟩
 · have HC := hide (X.itoa n w h0 h1 hp)
   have HV := hide (itoa_num (n := n) (by omega) h1)
   have g:(n == -9223372036854775808) = false := by simp [hl]
   clear X hp h0 h1 hl
   go_enter Tryz.func72,Tryz.ntmps72
   go_wp2_with fail
   refine (unhide HC).mono ?_
   rintro e w1 ⟨rfl,hb⟩
   have HB := hide hb
   clear hb HC
   go_wp2_with fail
   go_ret
   exact ⟨ret_str (by rw [HV.out]),HB.out⟩
structure SaveG (w:World):Prop where
 pow:PowAt w
 max:MaxAt w
 names:NamesAt w
theorem pow_glob : Tryz.prog.globalNamed "internal/strconv.uint64pow10" = some 5 := by kernel_rfl
theorem PowAt.keep {w w':World} (h:PowAt w) (hk:w'.heap[5]? = w.heap[5]?):PowAt w' := by
 unfold PowAt Lib.TabIs World.var? at *
 rw [pow_glob] at *
 simp only [Option.bind_some] at *
 rw [hk]
 exact h
theorem PowAt.lt {w:World} (h:PowAt w) : 5 < w.heap.size := by
 unfold PowAt Lib.TabIs World.var? at h
 rw [pow_glob] at h
 rcases Nat.lt_or_ge 5 w.heap.size with h1 | h1
 · exact h1
 · rw [Option.bind_some,Array.getElem?_eq_none h1] at h
   cases h
theorem SaveG.keep {w w':World} (h:SaveG w) (hk:∀ k,k = 5 \/ k = 2 \/ k = 0 -> w'.heap[k]? = w.heap[k]?):SaveG w' :=
 ⟨h.pow.keep (hk _ (.inl rfl)),let ⟨m,hm⟩ := h.max; ⟨m,(World.cell?_of_block (hk _ (.inr (.inl rfl)))).trans hm⟩,fun k h1 h2=>(World.cell?_of_block (hk _ (.inr (.inr rfl)))).trans (h.names k h1 h2)⟩
theorem SaveG.lts {w:World} (h:SaveG w):∀ k,k = 5 \/ k = 2 \/ k = 0 -> k < w.heap.size := by
 rintro k (rfl | rfl | rfl)
 · exact h.pow.lt
 · obtain ⟨m,hm⟩ := h.max
   exact lt_of_cell hm
 · exact lt_of_cell (h.names 1 (by omega) (by omega))
theorem SaveG.below {w w':World} (h:SaveG w) (hb:Below w.heap.size w w'):SaveG w' := h.keep (fun k hk=>hb.block k (h.lts k hk))
end Go.Proofs.YtojdpjpldokjmaaGreatDoor
namespace Go.Proofs.YtojdpjpldokjmaaGreatDoor.Pl
theorem quote_snoc:∀ (a:List UInt8) (c:UInt8),quote (a ++ [c]) = quote a ++ (if c = 39 then [39,39] else [c])
 | [],c=>by
   simp only [List.nil_append,quote]
 | b :: a,c=>by
   rw [List.cons_append,quote,quote,quote_snoc a c]
   split <;> simp
def litS (l:List UInt8) (k:Nat):List UInt8 := 39 :: quote (l.take k)
theorem litS_snoc {l:List UInt8} {k:Nat} (h:k < l.length):litS l (k + 1) = litS l k ++ (if l[k] = 39 then [39,39] else [l[k]]) := by
 unfold litS
 rw [(ln_drop h).2,quote_snoc]
 rfl
end Go.Proofs.YtojdpjpldokjmaaGreatDoor.Pl
namespace Go.Proofs.YtojdpjpldokjmaaGreatDoor
open Go.RowKit Go.Deep
set_option linter.unusedSimpArgs false
set_option linter.unusedVariables false
theorem lit_step {s o:ByteArray} {k:Nat} (hk:k < s.size) (ho:o = ⟨(Pl.litS s.data.toList k).toArray⟩):(s[k].toNat = 39 -> o ++ ⟨#[s[k]]⟩ ++ ⟨#[39]⟩ = ⟨(Pl.litS s.data.toList (k + 1)).toArray⟩) /\ (s[k].toNat ≠ 39 -> o ++ ⟨#[s[k]]⟩ = ⟨(Pl.litS s.data.toList (k + 1)).toArray⟩) := by
 have hl:k < s.data.toList.length := by rw [size_list]; exact hk
 have he:s.data.toList[k] = s[k] := by simp [ByteArray.getElem_eq_getElem_data]
 rw [Pl.litS_snoc hl,he]
 constructor
 · intro hc
   have e:s[k] = 39 := UInt8.toNat_inj.1 hc
   rw [if_pos e,e,ho]
   have := cat3 (Pl.litS s.data.toList k) [39] [39]
   simpa using this
 · intro hc
   rw [if_neg (fun e=>hc (by rw [e]; rfl)),ho]
   have := cat2' (Pl.litS s.data.toList k) [s[k]]
   simpa using this
theorem literalM (s:ByteArray) (w:World) (hs:s.size <= 9223372036854775807) :
   Calls Tryz.prog 29 #[.string s] w fun e w' => e = .returned (.string ⟨(39 :: (Pl.quote (s.data.toList.take 40) ++ [39])).toArray⟩) /\ w' = w := by
 have HSz := hide (size_list s)
 go_enter Tryz.func29,Tryz.ntmps29
 go_wp2_with fail
 go_loopw [3,4] (fun s3 s4 wr=>∃ (k:Nat) (o:ByteArray),k <= s.size /\ k <= 40 /\ s4 = .int .i64 (k:Nat) /\ s3 = .string o /\ o.size <= 2 * k + 1 /\ Hid (o = ⟨(Pl.litS s.data.toList k).toArray⟩) /\ Hid (wr = w)) (fun _ b _=>40 - (intOf b).toNat)
 case atStart=>exact ⟨0,_,Nat.zero_le _,by omega,rfl,rfl,by decide,rfl,rfl⟩
 case round =>
   obtain ⟨k,o,hk,hk40,rfl,rfl,hol,HO,HW⟩ := hrel
   by_cases hlt:k < s.size /\ k < 40
   · obtain ⟨hlt,hl40⟩ := hlt
     have hl40':((k:Nat):Int) < 40 := by omega
     have hxt := ext_one s k hlt
     have HGe:Hid (∃ h:k < s.data.toList.length,s.data.toList[k] = s[k]) := ⟨by rw [HSz.out]; exact hlt,by simp [ByteArray.getElem_eq_getElem_data]⟩
     have HStp := hide (lit_step hlt HO.out)
     have hn1:¬ (9223372036854775807 < ((o.size + 1:Nat):Int)) := by omega
     by_cases hc:s[k].toNat = 39
     · have hc':(((s[k].toNat:Nat):Int) == 39) = true := by simp; omega
       have HF := hide (HStp.out.1 hc)
       clear hc HStp HGe
       go_wp2_with fail
       refine ⟨⟨k + 1,_,by omega,by omega,by go_num,rfl,?_,HF.out,HW.out⟩,by simp [intOf]; omega⟩
       simp [ByteArray.size_append]
       show o.size + 1 + 1 <= _
       omega
     · have hc':(((s[k].toNat:Nat):Int) == 39) = false := by simp; omega
       have HF := hide (HStp.out.2 hc)
       clear hc HStp HGe
       go_wp2_with fail
       refine ⟨⟨k + 1,_,by omega,by omega,by go_num,rfl,?_,HF.out,HW.out⟩,by simp [intOf]; omega⟩
       simp [ByteArray.size_append]
       show o.size + 1 <= _
       omega
   · have HT:Hid (s.data.toList.take k = s.data.toList.take 40) := by
       unfold Hid
       by_cases h40:k = 40
       · rw [h40]
       · have:k = s.size := by omega
         rw [List.take_of_length_le (by rw [size_list]; omega),List.take_of_length_le (by rw [size_list]; omega)]
     have HF:Hid (o ++ ⟨#[39]⟩ = ⟨(39 :: (Pl.quote (s.data.toList.take 40) ++ [39])).toArray⟩) := by
       unfold Hid
       rw [HO.out]
       have := cat2' (Pl.litS s.data.toList k) [39]
       unfold Pl.litS at this ⊢
       rw [HT.out] at this ⊢
       simpa using this
     by_cases hks:k < s.size
     · have hl40':¬ ((k:Nat):Int) < 40 := by omega
       clear hlt HT
       go_wp2_with fail
       go_ret
       exact ⟨by rw [<- HF.out]; simp,HW.out⟩
     · clear hlt HT
       go_wp2_with fail
       go_ret
       exact ⟨by rw [<- HF.out]; simp,HW.out⟩
end Go.Proofs.YtojdpjpldokjmaaGreatDoor
