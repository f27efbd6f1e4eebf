/- Proved: for any raw numbers that a table is made of, any condition and any number, an UPDATE for which one row's value is too great, or divided by nothing, changes none of the rows, and one that may be done gives each row for which its condition is TRUE its new values, and no other row: rowmillkeep.Whole answers true. Conditions: none beyond the card's own (the listed package-level variables hold what the program's text lays). -/
import Derived.Test.YtojdpjpldokjmaaGreatDoorW50
import Derived.Test.YtojdpjpldokjmaaGreatDoorCards
import Derived.Test.YtojdpjpldokjmaaGreatDoorTie
set_option maxHeartbeats 16000000
set_option maxRecDepth 100000
namespace Go.Proofs.YtojdpjpldokjmaaGreatDoor
open Go.ChangeShapes Go.WideShapes Go.ChangeAt Go.RowKit
theorem whole_plain (f:FuncId) (fn:Func) (hf : Tryz.pinned.checked.prog.funcNamed Rows.wholeRow.func = some f) (hfn : Tryz.pinned.checked.prog.funcs[f]? = some fn) :
   true = Tryz.pinned.checked.prog.looks [] /\ ∀ (j:Nat) t,fn.params[j]? = some t -> Tryz.pinned.checked.prog.wantsStandIn t = false := by
 obtain rfl:f = 8 := Option.some.inj ((show Tryz.prog.funcNamed Rows.wholeRow.func = some 8 by kernel_rfl).symm.trans hf) |>.symm
 obtain rfl:fn = Tryz.f8 := (Option.some.inj (Tryz.func8.symm.trans hfn)).symm
 refine ⟨by as_aux_lemma=>kernel_rfl,fun j t ht=>?_⟩
 rw [Tryz.params8] at ht
 have ht2:t = 44 \/ t = 3 := by simpa using Array.mem_of_getElem? ht
 rcases ht2 with rfl | rfl
 · exact (show Tryz.prog.wantsStandIn 44 = false by as_aux_lemma=>kernel_rfl)
 · exact (show Tryz.prog.wantsStandIn 3 = false by as_aux_lemma=>kernel_rfl)
theorem whole_card:Rows.WholeCardSaid :=
 Claim7.holds_tied_plain_at .later [] _ _ _ _ whole_said (fun _ h=>by cases h) (by as_aux_lemma=>kernel_rfl) (fun _ h=>by cases h) whole_row_tie rfl ⟨rfl,rfl⟩ (by as_aux_lemma=>kernel_rfl) rfl whole_plain (by as_aux_lemma=>kernel_rfl)
end Go.Proofs.YtojdpjpldokjmaaGreatDoor
