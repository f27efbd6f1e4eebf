/- The keeps' own: digits, number, pick. -/
import Derived.Test.YtojdpjpldokjmaaGreatDoorO02
import Derived.Test.YtojdpjpldokjmaaGreatDoorO01
import Derived.Test.YtojdpjpldokjmaaGreatDoorO05
set_option maxHeartbeats 60000000
set_option maxRecDepth 100000
namespace Go.Proofs.YtojdpjpldokjmaaGreatDoor
open Go.RowKit Go.Deep
set_option linter.unusedSimpArgs false
set_option linter.unusedVariables false
theorem cv1 (wx:World) (n:Int):(convert 83 9 (.slice (some ⟨wx.heap.size,0,none⟩) 1 1)).run Tryz.prog (wx.alloc (.cells #[.int .u8 n] 5)) = .ok (.string ⟨#[UInt8.ofNat n.toNat]⟩) (wx.alloc (.cells #[.int .u8 n] 5)) := by
 have h := run_convert_bytes_arg (P := Tryz.prog) (wx.alloc (.cells #[.int .u8 n] 5)) 83 5 Tryz.underlying83 Tryz.underlying5 wx.heap.size 0 1 1 [n] rfl (by
   intro i hi
   have:i = 0 := by omega
   subst this
   simp) 9 Tryz.underlying9
 rw [h]
 simp [strOfNums]
def DigI (n m:Nat) (acc:List UInt8):Prop := (acc ≠ [] /\ m = 0 /\ acc = Pl.dec n) \/ ((m = 0 -> acc = []) /\ ∃ f,m < 10 ^ (f + 1) /\ Pl.decGo (f + 1) m acc = Pl.dec n /\ acc.length + (f + 1) = 20)
theorem DigI.start {n:Nat} (h:n < 10 ^ 20):DigI n n [] := .inr ⟨fun _=>rfl,19,h,rfl,rfl⟩
theorem DigI.len {n m:Nat} {acc:List UInt8} (h:DigI n m acc) (hn:n < 10 ^ 20):acc.length <= 20 := by
 rcases h with ⟨_,_,rfl⟩ | ⟨_,f,_,_,h⟩
 · exact (Pl.dec_ok hn).2.2.2
 · omega
theorem DigI.step {n m:Nat} {acc:List UInt8} (h:DigI n m acc) (hg:m > 0 \/ acc = []):DigI n (m / 10) (UInt8.ofNat (48 + m % 10) :: acc) := by
 rcases h with ⟨h1,h2,h3⟩ | ⟨h1,f,h2,h3,h4⟩
 · rcases hg with hg | hg
   · omega
   · exact absurd hg h1
 · by_cases h10:m < 10
   · refine .inl ⟨by simp,by omega,?_⟩
     rw [<- h3,Pl.decGo,if_pos h10,Nat.mod_eq_of_lt h10]
   · have hf:f ≠ 0 := by
       rintro rfl
       omega
     obtain ⟨k,rfl⟩ := Nat.exists_eq_succ_of_ne_zero hf
     refine .inr ⟨fun h=>by omega,k,?_,?_,by simp; omega⟩
     · rw [Nat.pow_succ] at h2
       exact Nat.div_lt_of_lt_mul (by omega)
     · rw [<- h3]
       conv=>rhs; rw [Pl.decGo,if_neg h10]
theorem DigI.done {n m:Nat} {acc:List UInt8} (h:DigI n m acc) (hm:¬ m > 0) (ha:acc ≠ []):acc = Pl.dec n := by
 rcases h with ⟨_,_,h⟩ | ⟨h,_⟩
 · exact h
 · exact absurd (h (by omega)) ha
def strE:Value -> Nat
 | .string s=>if s.size = 0 then 1 else 0
 | _=>0
theorem cons_str (x:UInt8) (acc:List UInt8):(({ data := #[x] }:ByteArray) ++ { data := acc.toArray }) = ⟨(x :: acc).toArray⟩ := by
 have := ByteArray.mk_append_mk [x] acc
 rw [show (#[x]:Array UInt8) = [x].toArray from rfl,this]; rfl
theorem dig_add (m:Nat):48 + UInt8.ofNat (m % 10) = UInt8.ofNat (48 + m % 10) := by
 rw [UInt8.ofNat_add]; rfl
theorem digitsM (n:Nat) (w:World) (hn:n <= 9223372036854775807) :
   Calls Tryz.prog 23 #[.int .i64 (n:Nat)] w fun e w' => e = .returned (.string ⟨(Pl.dec n).toArray⟩) /\ Below w.heap.size w w' := by
 have kc := cv1
 have HD := hide (DigI.start (n := n) (by omega))
 go_enter Tryz.func23,Tryz.ntmps23
 go_wp2_with fail
 go_loopw [0,3] (fun s0 s3 wr=>∃ (m:Nat) (acc:List UInt8),m <= 9223372036854775807 /\ s0 = .int .i64 (m:Nat) /\ s3 = .string ⟨acc.toArray⟩ /\ Hid (DigI n m acc /\ Below w.heap.size w wr)) (fun s0 s3 _=>(intOf s0).toNat + strE s3)
 case atStart=>exact ⟨n,[],hn,rfl,rfl,HD.out,Below.refl _ _⟩
 case round =>
   obtain ⟨m,acc,hm,rfl,rfl,HI⟩ := hrel
   have hb := HI.out.2.size
   have hl := HI.out.1.len (by omega)
   by_cases h0:m > 0
   · have g0:(0:Int) < (m:Int) := by omega
     have HS := hide (HI.out.1.step (.inl h0))
     go_wp2_with fail
     go_roundw
     case rel=>exact ⟨m / 10,_,by omega,by simp,by rw [cons_str,dig_add],HS.out,HI.out.2.alloc hb _⟩
     case measure=>rw [cons_str]; simp [intOf,strE,ByteArray.size]; omega
   · obtain rfl:m = 0 := by omega
     cases acc with
     | nil =>
       have HS := hide (HI.out.1.step (.inr rfl))
       go_wp2_with fail
       go_roundw
       case rel=>exact ⟨0,_,by omega,by simp,by rw [cons_str],by simpa using HS.out,HI.out.2.alloc hb _⟩
       case measure=>rw [cons_str]; simp [intOf,strE,ByteArray.size]
     | cons a r =>
       have HS := hide (HI.out.1.done (by omega) (by simp))
       go_wp2_with fail
       go_ret
       exact ⟨ret_str (by rw [HS.out]),HI.out.2⟩
def Pl.pickK (c:Int) (n:Nat):Nat := (if c < 0 then (-(c + 1)).toNat else c.toNat) % n
theorem pickM (c:Int) (n:Nat) (w:World) (hc:Pl.in64 c) (h0:0 < n) (hn:n <= 9223372036854775807) :
   Calls Tryz.prog 22 #[.int .i64 c,.int .i64 (n:Nat)] w fun e w' => e = .returned (.int .i64 (Pl.pickK c n:Nat)) /\ w' = w := by
 obtain ⟨hc1,hc2⟩ := hc
 unfold Pl.pickK
 by_cases hneg:c < 0
 · obtain ⟨k,rfl⟩:∃ k:Nat,c = -(k:Int) - 1 := ⟨(-(c + 1)).toNat,by omega⟩
   rw [if_pos hneg]
   have e:(-(-(k:Int) - 1 + 1)).toNat = k := by omega
   rw [e]
   go_enter Tryz.func22,Tryz.ntmps22
   go_wp2_with fail
   go_ret
   exact ⟨ret_int (by go_num),rfl⟩
 · obtain ⟨k,rfl⟩:∃ k:Nat,c = (k:Int) := ⟨c.toNat,by omega⟩
   rw [if_neg hneg]
   go_enter Tryz.func22,Tryz.ntmps22
   go_wp2_with fail
   go_ret
   exact ⟨ret_int (by go_num),rfl⟩
theorem mod_nat (k n:Nat):((k:Int) % (n:Int)).toNat = k % n := by rw [<- Int.natCast_emod,Int.toNat_natCast]
theorem pickK_N (c:Int) (n:Nat):Pl.pickK c n = Pl.pickN c n := by
 unfold Pl.pickK Pl.pickN
 split
 · obtain ⟨k,hk⟩:∃ k:Nat,-(c + 1) = (k:Int) := ⟨(-(c + 1)).toNat,by omega⟩
   rw [hk,mod_nat,Int.toNat_natCast]
 · obtain ⟨k,rfl⟩:∃ k:Nat,c = (k:Int) := ⟨c.toNat,by omega⟩
   rw [mod_nat,Int.toNat_natCast]
theorem add_block (p:Addr) (i:Nat):(p.add i).block = p.block := by
 unfold Addr.add
 split <;> rfl
def IntsAt (w:World) (raw:List Int) (v:Value):Prop := ∃ a c,v = .slice a raw.length c /\ (raw ≠ [] -> ∃ p:Addr,a = some p /\ p.block < w.heap.size /\ ∀ (i:Nat) x,raw[i]? = some x -> w.cell? (p.add i) = some (.int .i64 x))
theorem IntsAt.below {w w':World} {raw:List Int} {v:Value} (h:IntsAt w raw v) (hb:Below w.heap.size w w'):IntsAt w' raw v := by
 obtain ⟨a,c,h1,h2⟩ := h
 refine ⟨a,c,h1,fun hn=>?_⟩
 obtain ⟨p,h3,h4,h5⟩ := h2 hn
 exact ⟨p,h3,Nat.lt_of_lt_of_le h4 hb.size,fun i x hx=>by rw [hb.cell (by rw [add_block]; exact h4)]; exact h5 i x hx⟩
def strsO (l:List (List UInt8)):Obj := .cells (l.map fun x=>Value.string ⟨x.toArray⟩).toArray 9
theorem strs_cell (w:World) (l:List (List UInt8)) {k:Nat} {x:List UInt8} (h:l[k]? = some x):(w.alloc (strsO l)).cell? ⟨w.heap.size,k,none⟩ = some (.string ⟨x.toArray⟩) := by
 have := blk_cell (blk_new w (strsO l)) k
 rw [this]
 simp [h]
theorem cat3 (a b c:List UInt8):((({ data := a.toArray }:ByteArray) ++ { data := b.toArray }) ++ { data := c.toArray }) = ⟨(a ++ b ++ c).toArray⟩ := by
 rw [ByteArray.mk_append_mk,ByteArray.mk_append_mk]
end Go.Proofs.YtojdpjpldokjmaaGreatDoor
