/- Proved: for any two numbers a and b, the sums, differences and quotients that the database reckons of them are what they are, or refused as the document says: rowmillkeep.Reckoned answers true. Conditions: none beyond the card's own (the listed package-level variables hold what the program's text lays). -/
import Derived.Test.YtojdpjpldokjmaaGreatDoorG37
import Derived.Test.YtojdpjpldokjmaaGreatDoorCards
import Derived.Test.YtojdpjpldokjmaaGreatDoorTie
namespace Go.Proofs.YtojdpjpldokjmaaGreatDoor
open Go.ChangeShapes Go.WideShapes Go.ChangeAt Go.RowKit

set_option maxHeartbeats 8000000 in
theorem reckoned_plain (f : FuncId) (fn : Func) (hf : Tryz.pinned.checked.prog.funcNamed Rows.reckonedRow.func = some f) (hfn : Tryz.pinned.checked.prog.funcs[f]? = some fn) :
    true = Tryz.pinned.checked.prog.looks [] ∧ ∀ (j : Nat) t, fn.params[j]? = some t → Tryz.pinned.checked.prog.wantsStandIn t = false := by
  obtain rfl : f = 6 := Option.some.inj ((show Tryz.prog.funcNamed Rows.reckonedRow.func = some 6 by kernel_rfl).symm.trans hf) |>.symm
  obtain rfl : fn = Tryz.f6 := (Option.some.inj (Tryz.func6.symm.trans hfn)).symm
  refine ⟨by as_aux_lemma => kernel_rfl, fun j t ht => ?_⟩
  rw [Tryz.params6] at ht
  obtain rfl : t = 3 := by simpa using Array.mem_of_getElem? ht
  exact (show Tryz.prog.wantsStandIn 3 = false by as_aux_lemma => kernel_rfl)
set_option maxHeartbeats 8000000 in
/-- THE CARD. -/
theorem reckoned_card : Rows.ReckonedCardSaid :=
  Claim7.holds_tied_plain_at .later [] _ _ _ _ reckoned_said (fun _ h => by cases h) (by as_aux_lemma => kernel_rfl) (fun _ h => by cases h) reckoned_row_tie rfl ⟨rfl, rfl⟩ (by as_aux_lemma => kernel_rfl) rfl reckoned_plain (by as_aux_lemma => kernel_rfl)
end Go.Proofs.YtojdpjpldokjmaaGreatDoor
