/- The code's Save: what the library does; a number, a value, a column as text. -/
import Derived.Test.YtojdpjpldokjmaaGreatDoorO08
import Derived.Test.YtojdpjpldokjmaaGreatDoorO04
import Derived.Lib.Builder
import Derived.Lib.LaidTab
import Derived.Lib.ItoaNum
set_option maxHeartbeats 60000000
set_option maxRecDepth 100000
namespace Go.Proofs.YtojdpjpldokjmaaGreatDoor
open Go.RowKit Go.Deep
set_option linter.unusedSimpArgs false
set_option linter.unusedVariables false
def PowAt (w:World):Prop := Lib.TabIs Tryz.prog w "internal/strconv.uint64pow10" .u64 Lib.pow10Tab
def MaxAt (w:World):Prop := ∃ m,w.cell? ⟨2,0,none⟩ = some (.int .i64 m)
def NamesAt (w:World):Prop := ∀ k:Nat,1 <= k -> k <= 3 -> w.cell? ⟨0,k,none⟩ = some (.string ⟨(Pl.typeText (k:Nat)).toArray⟩)
structure SaveG (w:World):Prop where
 pow:PowAt w
 max:MaxAt w
 names:NamesAt w
theorem pow_glob : Tryz.prog.globalNamed "internal/strconv.uint64pow10" = some 5 := by kernel_rfl
theorem PowAt.keep {w w':World} (h:PowAt w) (hk:w'.heap[5]? = w.heap[5]?):PowAt w' := by
 unfold PowAt Lib.TabIs World.var? at *
 rw [pow_glob] at *
 simp only [Option.bind_some] at *
 rw [hk]
 exact h
theorem PowAt.lt {w:World} (h:PowAt w) : 5 < w.heap.size := by
 unfold PowAt Lib.TabIs World.var? at h
 rw [pow_glob] at h
 rcases Nat.lt_or_ge 5 w.heap.size with h1 | h1
 · exact h1
 · rw [Option.bind_some,Array.getElem?_eq_none h1] at h
   cases h
theorem SaveG.keep {w w':World} (h:SaveG w) (hk:∀ k,k = 5 \/ k = 2 \/ k = 0 -> w'.heap[k]? = w.heap[k]?):SaveG w' :=
 ⟨h.pow.keep (hk _ (.inl rfl)),let ⟨m,hm⟩ := h.max; ⟨m,(World.cell?_of_block (hk _ (.inr (.inl rfl)))).trans hm⟩,fun k h1 h2=>(World.cell?_of_block (hk _ (.inr (.inr rfl)))).trans (h.names k h1 h2)⟩
theorem SaveG.lts {w:World} (h:SaveG w):∀ k,k = 5 \/ k = 2 \/ k = 0 -> k < w.heap.size := by
 rintro k (rfl | rfl | rfl)
 · exact h.pow.lt
 · obtain ⟨m,hm⟩ := h.max
   exact lt_of_cell hm
 · exact lt_of_cell (h.names 1 (by omega) (by omega))
theorem SaveG.below {w w':World} (h:SaveG w) (hb:Below w.heap.size w w'):SaveG w' := h.keep (fun k hk=>hb.block k (h.lts k hk))
end Go.Proofs.YtojdpjpldokjmaaGreatDoor
