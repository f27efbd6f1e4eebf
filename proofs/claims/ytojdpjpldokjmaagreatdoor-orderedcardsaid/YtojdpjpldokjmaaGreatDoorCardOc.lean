/- Proved: for any raw numbers that a table is made of, any of its three columns, any LIMIT and OFFSET from 0 to 8: ORDER BY tells the same rows by rising values, ORDER BY .. DESC by falling ones, rows whose values are the same in the order in which they stood, LIMIT and OFFSET just the part of the ordered rows that they name, and SELECT DISTINCT each value once, in order: rowmillkeep.Ordered answers true. Conditions: none beyond the card's own (the listed package-level variables hold what the program's text lays). -/
import Derived.Test.YtojdpjpldokjmaaGreatDoorO31
import Derived.Test.YtojdpjpldokjmaaGreatDoorCards
import Derived.Test.YtojdpjpldokjmaaGreatDoorTie
set_option maxHeartbeats 60000000
set_option maxRecDepth 100000
namespace Go.Proofs.YtojdpjpldokjmaaGreatDoor
open Go.ChangeShapes Go.WideShapes Go.ChangeAt Go.RowKit
theorem ordered_plain (f:FuncId) (fn:Func) (hf : Tryz.pinned.checked.prog.funcNamed Rows.orderedRow.func = some f) (hfn : Tryz.pinned.checked.prog.funcs[f]? = some fn) :
   true = Tryz.pinned.checked.prog.looks [] /\ ∀ (j:Nat) t,fn.params[j]? = some t -> Tryz.pinned.checked.prog.wantsStandIn t = false := by
 obtain rfl:f = 7 := Option.some.inj ((show Tryz.prog.funcNamed Rows.orderedRow.func = some 7 by kernel_rfl).symm.trans hf) |>.symm
 obtain rfl:fn = Tryz.f7 := (Option.some.inj (Tryz.func7.symm.trans hfn)).symm
 refine ⟨by as_aux_lemma=>kernel_rfl,fun j t ht=>?_⟩
 rw [Tryz.params7] at ht
 have ht2:t = 44 \/ t = 3 := by simpa using Array.mem_of_getElem? ht
 rcases ht2 with rfl | rfl
 · exact (show Tryz.prog.wantsStandIn 44 = false by as_aux_lemma=>kernel_rfl)
 · exact (show Tryz.prog.wantsStandIn 3 = false by as_aux_lemma=>kernel_rfl)
theorem ordered_card:Rows.OrderedCardSaid :=
 Claim7.holds_tied_plain_at .later [] _ _ _ _ ordered_said (fun _ h=>by cases h) (by as_aux_lemma=>kernel_rfl) (fun _ h=>by cases h) ordered_row_tie rfl ⟨rfl,rfl⟩ (by as_aux_lemma=>kernel_rfl) rfl ordered_plain (by as_aux_lemma=>kernel_rfl)
end Go.Proofs.YtojdpjpldokjmaaGreatDoor
