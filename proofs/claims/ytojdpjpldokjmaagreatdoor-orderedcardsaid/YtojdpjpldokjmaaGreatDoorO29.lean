/- Slices of numbers that come in. -/
import Derived.Test.YtojdpjpldokjmaaGreatDoorO06
import Derived.Test.YtojdpjpldokjmaaGreatDoorO28
import Derived.ChangeSlices
import Derived.Carry
import Derived.WalkKit
import Derived.ProofKit
import Derived.SevenTiedAt
set_option maxHeartbeats 60000000
set_option maxRecDepth 100000
namespace Go.Proofs.YtojdpjpldokjmaaGreatDoor
open Go.ChangeShapes Go.WideShapes Go.ChangeAt Go.RowKit
set_option linter.unusedSimpArgs false
set_option linter.unusedVariables false
theorem Tryz.laidOut:laidOutB Tryz.prog = true := by as_aux_lemma=>kernel_rfl
theorem ownK:ownKnob Tryz.prog.godebug = none := by kernel_rfl
theorem c_int : Tryz.prog.cellsOf 3 = 1 := by kernel_rfl
theorem in64_wf {x:Int} (h:(Lit.int .i64 x).wf = true):Pl.in64 x := by simpa [Pl.in64,Lit.wf,IntKind.min,IntKind.max,IntKind.signed,IntKind.bits] using h
theorem lt_of_cell' {w:World} {p:Addr} {v:Value} (h:w.cell? p = some v):p.block < w.heap.size := by
 rcases Nat.lt_or_ge p.block w.heap.size with h1 | h1
 · exact h1
 · exfalso
   unfold World.cell? at h
   rw [Array.getElem?_eq_none h1] at h
   simp at h
theorem ints_of {H:Type} {enc:TypeId × Value -> H} {W:World} {base:Nat} {v:Value} {d:DataW H} {p:List MemPlace} (hv:Value.okWide Tryz.prog W .any base 44 v) (h:DataW.Trod enc Tryz.prog W 0 (fun _=>true) true 44 v d p):∃ raw:List Int,IntsAt W raw v /\ ∀ x ∈ raw,Pl.in64 x := by
 obtain ⟨a0,n0,c0,rfl⟩ := okWide_slice Tryz.underlying44 hv
 obtain ⟨fuel,h⟩ := h
 rcases open_ints Tryz.underlying44 Tryz.underlying3 c_int h with ⟨h1,_⟩ | ⟨a,len,cap,zs,h1,_,hlc,_,hzl,_,hc,hw⟩
 · simp [Value.cells] at h1
   obtain ⟨rfl,rfl,rfl⟩ := h1
   exact ⟨[],⟨none,0,rfl,fun hn=>absurd rfl hn⟩,fun x hx=>by simp at hx⟩
 · simp [Value.cells] at h1
   obtain ⟨rfl,rfl,rfl⟩ := h1
   have hl:(zs.take n0).length = n0 := by
     rw [List.length_take,hzl]
     split <;> omega
   refine ⟨zs.take n0,⟨some a,c0,by rw [hl],fun hn=>⟨a,rfl,?_,fun i x hx=>?_⟩⟩,fun x hx=>in64_wf (hw x (List.mem_of_mem_take hx))⟩
   · have h0:0 < zs.length := by
       rcases Nat.eq_zero_or_pos zs.length with h | h
       · rw [List.length_eq_zero_iff.1 h] at hn; simp at hn
       · exact h
     exact lt_of_cell' (hc 0 h0)
   · have hi := (List.getElem?_eq_some_iff.1 hx).1
     rw [hl] at hi
     have hz:i < zs.length := by rw [hzl]; split <;> omega
     rw [hc i hz]
     rw [List.getElem?_take_of_lt hi] at hx
     simp [List.getD,hx]
end Go.Proofs.YtojdpjpldokjmaaGreatDoor
