/- The keep Parted: the walk. -/
import Derived.Test.YtojdpjpldokjmaaGreatDoorW11
import Derived.Test.YtojdpjpldokjmaaGreatDoorW33
import Derived.Test.YtojdpjpldokjmaaGreatDoorW34
set_option maxHeartbeats 16000000
set_option maxRecDepth 100000
namespace Go.Proofs.YtojdpjpldokjmaaGreatDoor
open Go.RowKit Go.Deep
set_option linter.unusedSimpArgs false
set_option linter.unusedVariables false
theorem ok_sel (HS:StableM 19) {rt ru:List (List Pl.V)} (h1:rt.length <= 19) (h2:ru.length <= 19) {t:List UInt8} (h:∃ s,Pl.pParse t = some s /\ s.kind = 115 /\ s.distinct = false /\ s.sources.length = 1):ExecOk (Pl.bTab rt ru) t := by
 obtain ⟨s,hp,hk,hd,hl⟩ := h
 refine execOk_sel1 HS hp (by rw [hk]; decide) hd hl (fun x hx=>?_)
 simp [Pl.bTab] at hx
 rcases hx with rfl | rfl
 · exact h1
 · exact h2
theorem mato_one {W:World} {k h b:Nat} {r:List Pl.V} (hx:W.heap[k]? = some (.cells #[.slice (some ⟨h,0,none⟩) r.length b] 32)) (hr:RowsW W W.heap.size 3 vC r (.slice (some ⟨h,0,none⟩) r.length b)):MatO W [r] (.slice (some ⟨k,0,none⟩) 1 1) := by
 refine ⟨_,1,rfl,by simp,fun _=>⟨k,0,rfl,lt_of_blk hx,fun i x hx' => ?_⟩⟩
 have hi:i = 0 := by
   have := (List.getElem?_eq_some_iff.1 hx').1
   simpa using this
 subst hi
 simp at hx'
 subst hx'
 have := blk_cell hx 0
 simp at this
 exact ⟨_,by simpa using this,hr⟩
end Go.Proofs.YtojdpjpldokjmaaGreatDoor
